import PyProof.Rows.All
import Wide.All
import OpenK.AllK
import Wide.FinOn
import HandS.ForMost
import HandS.Walk
import HandS.Deep
import HandS.TupAny
import HandS.IsInst
import KE.GoesEnum
import KE.KRevSl
import HandS.Style
import HandS.Evl
import HandS.Strs
import HandS.SetFor
import HandS.ForExc
import HandS.ExcIs
import KE.KSortedM
import HandS.Lambda
import HandS.EndTab
import PySem.Challenge.RW_asifalone_k02_what_dealings_touch
set_option Elab.async false
set_option linter.all false
set_option maxRecDepth 100000
set_option maxHeartbeats 4000000
/-! rules that the layer lacks: enumerate of a tuple, in over a tuple of data, t[::-1] of a tuple -/
namespace PySem
open Sem (wp)
set_option maxHeartbeats 4000000 in
theorem as_meets_enum {v : Value} {o : Obj} {H : Heap → Prop} (B : Begins v o H) :
    Meets (Builtin.«enumerate.__new__» ⟨[.type "enumerate", v], []⟩) (fun _ R s => H s.heap ∧
      R (.ok (.ret (.ref (s.heap.push o).objs.size))) { s with heap := (s.heap.push o).push { cls := .type "enumerate", data := .fields #[.none, .bool false, .ref s.heap.objs.size, rawInt 0, .none, .none] } }) :=
  .of_wp fun prog w A R s h => by
    obtain ⟨hpk, g, d, tkk, osk⟩ := s; obtain ⟨h1, h⟩ := h
    have hsub := sub_enumerate
    have q1k : ∀ {A' : Around} {E : Value → Shared → Prop} {Q : Value → Shared → Prop}, Q (.ref hpk.objs.size) ⟨hpk.push o, g, d, tkk, osk⟩ → wpAny (model prog w) A' (pyIter v) Q E ⟨hpk, g, d, tkk, osk⟩ :=
      fun q => B.iter prog w _ _ ⟨hpk, g, d, tkk, osk⟩ _ h1 q
    wp_walk using q1k
    refine wpAny_stack_any fun st => wpAny_pure ?_
    split
    · rename_i c _ _ _ _ _
      cases (c == Value.type "enumerate")
      · wp_walk using q1k
        exact ⟨_, rfl, h⟩
      · wp_walk using q1k
        exact ⟨_, rfl, h⟩
    · wp_walk using q1k
      exact ⟨_, rfl, h⟩
section
variable {prog : Program} {w : World} {A : Around} {E : Value → Shared → Prop} {s : Shared}
theorem as_call_enum {v : Value} {o : Obj} {H : Heap → Prop} {Q : Value → Shared → Prop} (B : Begins v o H) (h1 : H s.heap)
    (h : ∀ h', IsEnum h' (s.heap.objs.size + 1) s.heap.objs.size 0 .none → h'.get? s.heap.objs.size = some o → h'.objs.size = s.heap.objs.size + 2 →
      (∀ b o, s.heap.get? b = some o → h'.get? b = some o) → Q (.ref (s.heap.objs.size + 1)) { s with heap := h' }) :
    wpAny (model prog w) A (call (.type "enumerate") [v]) Q E s := by
  refine callType_new F.called_enumerate (by decide) (F.typeCall_enumerate_1 _) (F.newCall_enumerate_1 _) (fun obj => F.args_object_init_2 obj _) F.entry_enumerate_new
    (as_meets_enum B) ⟨h1, ?_⟩
  have hzk : (s.heap.push o).objs.size = s.heap.objs.size + 1 := Heap.size_push ..
  show _ ∧ _
  rw [hzk]
  have hek : IsEnum ((s.heap.push o).push { cls := .type "enumerate", data := .fields #[.none, .bool false, .ref s.heap.objs.size, rawInt 0, .none, .none] }) (s.heap.objs.size + 1) s.heap.objs.size 0 .none := by
    have := Heap.get?_push_size (s.heap.push o) (o := { cls := .type "enumerate", data := .fields #[.none, .bool false, .ref s.heap.objs.size, rawInt 0, .none, .none] }) rfl
    rw [hzk] at this; exact this
  refine ⟨⟨_, hek, rfl⟩, h _ hek (Heap.get?_push_of_some _ (Heap.get?_push_size _ B.free)) (by rw [Heap.size_push, hzk]) fun b o x => Heap.get?_push_of_some _ (Heap.get?_push_of_some _ x)⟩
end
end PySem
namespace L2
open PySem PySem.Spec PyProof.Rows
/-! ### enumerate(tuple) -/
def ItEt (K : PySem.W.Frag) (a : Addr) : It :=
  ⟨fun i H => ∃ (xs : List V) (x : V), SqT K H a xs ∧ xs[i]? = some x, fun i H v H' => ∃ T x, v = .ref T ∧ H T = none ∧ H' = upd H T (.tup [.int (i : Nat), x]) ∧ ∀ xs, SqT K H a xs → xs[i]? = some x, fun i H => ∃ xs : List V, SqT K H a xs ∧ xs.length = i⟩
theorem turn_enumT {P : Program} {w : World} {K : PySem.W.Frag} {elts : List Expr} {kk : Nat} {tpos : Pos} (a e it : Addr) :
    Turn P w K (.Tuple elts kk tpos) (ItEt K a) [e, it] e (fun i h => (∃ oldk, IsEnum h e it ((i : Nat) : Int) oldk) ∧ h.IsTupleIter it a i ∧ e ≠ it ∧ a ≠ it ∧ a ≠ e) where
  mem := by simp
  obj := fun i h st b hbk => by
    obtain ⟨⟨oldk, hek⟩, ⟨o, ho, hc, hd⟩, _⟩ := st
    have ek' : b = e ∨ b = it := by simpa using hbk
    rcases ek' with z | z
    · rw [z]; exact ⟨_, hek, fun v q => nomatch q⟩
    · rw [z]; exact ⟨o, ho, fun v q => by rw [hd] at q; cases q⟩
  keep := fun i h h' st k => let ⟨⟨oldk, hek⟩, hik, hnek⟩ := st; ⟨⟨oldk, k e (by simp) _ hek⟩, hik.at fun o q => k it (by simp) o q, hnek⟩
  item := by
    intro X hPk hwk hKk hc i pinsk s σ H E Ik hfk st hgk
    subst hPk hwk hKk
    obtain ⟨⟨oldk, hek⟩, hitk, hnek, hai, hae⟩ := st
    obtain ⟨xs, x, hqk, hxk⟩ := hgk
    obtain ⟨itsk, rvk, p, hzk⟩ := Ik.tuple hqk
    obtain ⟨u, huk, ruk⟩ := rvk.get hxk
    have helk : e < s.heap.objs.size := Heap.lt_size hek
    have hilk : it < s.heap.objs.size := by obtain ⟨_, q, _⟩ := hitk; exact Heap.lt_size q
    have p' : s.heap.IsTuple a itsk.toArray := p
    have hlt : i < itsk.toArray.size := by
      have := (List.getElem?_eq_some_iff.mp huk).1
      simpa using this
    refine wpAny_pyNext_enum_itemD (Draws.tuple (A := X.A.in1) (Ik.ok.hd hc) it a hai itsk.toArray) hek ⟨hitk, p'⟩ hlt hnek (by simp only [List.mem_cons, List.mem_singleton, List.not_mem_nil, or_false, not_or]; exact ⟨hnek, fun z => hae z.symm⟩) fun x' h' tkk hx' ho st' hTk hszk hkk => ?_
    have exk : x' = u := by
      have q1k : itsk[i]? = some x' := by simpa using hx'
      exact Option.some.inj (q1k.symm.trans huk)
    subst exk
    obtain ⟨hit', _⟩ := st'
    refine ⟨_, rfl, wpAny_letOwnedTupleGo_enum (s := { s with heap := h', toks := tkk + 1 }) ho fun h'' he' sbk => ?_⟩
    have hT2 : h''.get? s.heap.objs.size = some { cls := .type "tuple", data := .seq #[.int i tkk, x'] } := (sbk.2 _ (Nat.ne_of_gt helk)).trans hTk
    have newk : ObjOk X.prog X.w (upd H s.heap.objs.size (.tup [.int (i : Nat), x])) h'' s.heap.objs.size (.tup [.int (i : Nat), x]) :=
      ⟨by show 2 ≤ sizeLine; decide, [.int i tkk, x'], .cons ⟨_, rfl⟩ (.cons ruk .nil), ⟨_, hT2, rfl, _, rfl⟩⟩
    have I1k : Inv X pinsk σ (upd H s.heap.objs.size (.tup [.int (i : Nat), x])) { s with heap := h'', toks := tkk + 1 } :=
      Ik.turnedNew (ch := [e, it]) (fun b ob hbk q => (sbk.2 b (fun z => hbk (by simp [z]))).trans (hkk b ob (fun z => hbk (by simp [z])) (fun z => hbk (by simp [z])) q)) hfk (Nat.le_refl _) newk
    refine ⟨.ref s.heap.objs.size, _, I1k, rfl, ⟨_, x, rfl, Ik.hok.fresh (Nat.le_refl _), rfl, fun ys hy => by rw [Ik.tuple_inj hy hqk]; exact hxk⟩, ⟨⟨x', ?_⟩, hit'.at fun o q => (sbk.2 it (Ne.symm hnek)).trans q, hnek, hai, hae⟩, fun b hbk => ?_⟩
    · have e1 : ((i + 1 : Nat) : Int) = (i : Int) + 1 := by omega
      rw [e1]; exact he'
    · have hbk' : b < s.heap.objs.size := by
        have ek' : b = e ∨ b = it := by simpa using hbk
        rcases ek' with z | z
        · rw [z]; exact helk
        · rw [z]; exact hilk
      rw [upd_ne (Nat.ne_of_lt hbk')]
      exact (hfk b hbk).1
  done := by
    intro X hPk hwk hKk hc i pinsk s σ H E Ik hfk st hgk
    subst hPk hwk hKk
    obtain ⟨⟨oldk, hek⟩, hitk, hnek, hai, hae⟩ := st
    obtain ⟨xs, hqk, hxk⟩ := hgk
    obtain ⟨itsk, rvk, p, hzk⟩ := Ik.tuple hqk
    obtain ⟨f0k, f1k, f2k, f3k, f4k, f5k⟩ := hfk it (by simp)
    have hl := rvk.length
    have hit2 : s.heap.IsTupleIter it a i := hitk
    exact wpAny_pyNext_enum_endD (Draws.tuple (A := X.A.in1) (Ik.ok.hd hc) it a hai itsk.toArray) hek (show s.heap.IsTupleIter it a itsk.toArray.size ∧ s.heap.IsTuple a itsk.toArray from ⟨by
        have e0 : itsk.toArray.size = i := by rw [List.size_toArray]; omega
        rw [e0]; exact hitk, p⟩) fun h' eb => ⟨rfl, Ik.turned (t' := s.toks) (fun b o hbk q => eb b o hbk q) f0k f1k f3k f4k f5k⟩
  self := fun A i s Q E st h => let ⟨⟨_, hek⟩, _⟩ := st; wpAny_pyIter_enum hek h
def iEnumT (K : PySem.W.Frag) (ta : TA) : TI := fun σ H R => ta σ H fun vs H1k => ∃ a xs, vs = [.ref a] ∧ SqT K H1k a xs ∧ R (ItEt K a) H1k
theorem pi_enumT {X : Cx} {e : Expr} {ta : TA} {p pos tpos : Pos} {elts : List Expr} {kk : Nat} (hgk : Gl X "enumerate") (hm : X.mg "enumerate" = none) (ha : PA X [e] ta) (hsk : starEach [e] X.env = [(false, eval e X.env)] := by rfl) :
    PI X (.Tuple elts kk tpos) (.Call (.Name "enumerate" p) [e] [] pos) (iEnumT X.K ta) := by
  refine ⟨fun pinsk s σ H R Ik h => ?_⟩
  refine Call_ (ld_blt Ik hgk hm boot_enumerate (PyProof.Rows.callWith_type1 (thn (ha.run pos pinsk s σ H _ Ik h) fun us s1k ⟨vs, H1k, I1k, r1k, q1k⟩ => ?_) hsk rfl))
  obtain ⟨a, xs, exk, hqk, q⟩ := q1k
  subst exk
  cases r1k with
  | cons r rr =>
    cases rr
    cases r
    obtain ⟨itsk, rvk, p', hzk⟩ := I1k.tuple hqk
    have p2 : s1k.heap.IsTuple a itsk.toArray := p'
    have hal : a < s1k.heap.objs.size := by obtain ⟨o, ho, _⟩ := p2; exact Heap.lt_size ho
    refine as_call_enum (begins_tuple a itsk.toArray) p2 fun h' hek hitk hszk hkk => wpAny_pyIter_enum hek ?_
    have I2k : Inv X pinsk σ H1k { s1k with heap := h' } := I1k.kept (t' := s1k.toks) hkk
    refine ⟨s1k.heap.objs.size + 1, [s1k.heap.objs.size + 1, s1k.heap.objs.size], _, _, H1k, rfl, I2k, turn_enumT a (s1k.heap.objs.size + 1) s1k.heap.objs.size, ⟨⟨.none, hek⟩, ⟨_, hitk, rfl, rfl⟩, Nat.succ_ne_self _, Nat.ne_of_lt hal, Nat.ne_of_lt (Nat.lt_succ_of_lt hal)⟩, fun b hbk => ?_, q⟩
    have ek' : b = s1k.heap.objs.size + 1 ∨ b = s1k.heap.objs.size := by simpa using hbk
    have hlek : s1k.heap.objs.size ≤ b := by
      rcases ek' with z | z
      · rw [z]; exact Nat.le_add_right _ _
      · rw [z]; exact Nat.le_refl _
    exact I1k.fpOk hlek (I1k.hok.fresh hlek)
theorem walk_enumT {K : PySem.W.Frag} {a : Addr} {xs : List V} : Walk (ItEt K a) xs.length (fun H => SqT K H a xs) (YPair (fun i => some (.int (i : Nat))) (fun i => xs[i]?)) where
  goes := fun i H hik h => ⟨xs, xs[i], h, List.getElem?_eq_getElem hik⟩
  stops := fun H h => ⟨xs, h, rfl⟩
  yields := fun i H x H' _ h y => by
    obtain ⟨T, z, e1, e2k, e3k, e4k⟩ := y
    exact ⟨T, _, z, e1, e2k, e3k, rfl, e4k xs h⟩
/-! ### in over a tuple of data -/
section
variable {X : Cx}
def rInDT (K : PySem.W.Frag) : R2 := fun x y H Q => ∃ d ds, Dp K H x d ∧ Dp K H y (.tuple ds) ∧ SeqAt.shaped d = true ∧ SeqAt.shaped (.tuple ds) = true ∧ Q (.bl (ds.any fun z => PyData.eqv z d)) H
def rNotInDT (K : PySem.W.Frag) : R2 := fun x y H Q => ∃ d ds, Dp K H x d ∧ Dp K H y (.tuple ds) ∧ SeqAt.shaped d = true ∧ SeqAt.shaped (.tuple ds) = true ∧ Q (.bl (!ds.any fun z => PyData.eqv z d)) H
theorem op_inDT (huk : X.A.units + 65 < cLine) : OpR X (compareOp .In) (rInDT X.K) := by
  intro pinsk s σ H x y v u Q Ik rxk ryk h
  obtain ⟨d, ds, hd, hek, sdk, sek, q⟩ := h
  obtain ⟨as, r1k⟩ := Dp.reads Ik d x v hd rxk
  obtain ⟨bs, r2⟩ := Dp.reads Ik (.tuple ds) y u hek ryk
  exact SeqAt.in_tuple_reads r2 r1k (SeqAt.canLay_of_shaped sek) (SeqAt.canLay_of_shaped sdk) (room_in_shaped sdk huk) ⟨.bl _, H, Ik, rfl, q⟩
theorem op_notInDT (huk : X.A.units + 65 < cLine) : OpR X (compareOp .NotIn) (rNotInDT X.K) := by
  intro pinsk s σ H x y v u Q Ik rxk ryk h
  obtain ⟨d, ds, hd, hek, sdk, sek, q⟩ := h
  obtain ⟨as, r1k⟩ := Dp.reads Ik d x v hd rxk
  obtain ⟨bs, r2⟩ := Dp.reads Ik (.tuple ds) y u hek ryk
  exact SeqAt.notIn_tuple_reads r2 r1k (SeqAt.canLay_of_shaped sek) (SeqAt.canLay_of_shaped sdk) (room_in_shaped sdk huk) ⟨.bl _, H, Ik, rfl, q⟩
end
end L2

namespace HT
open PySem PySem.Spec PyProof.Rows L2
section
variable {prog : Program} {w : World} {A : Around} {E : Value → Shared → Prop} {s : Shared}
theorem as_adjust_rev (n : Nat) : Builtin.Slice.sliceAdjust none none (-1) (n : Int) = ((n : Int) - 1, -1) := by
  unfold Builtin.Slice.sliceAdjust
  simp
theorem as_places_rev (n : Nat) : Builtin.Slice.slicePlaces ((n : Int) - 1) (-1) (-1) = n := by
  unfold Builtin.Slice.slicePlaces
  have h1 : ¬ ((-1 : Int) > 0) := by omega
  rw [if_neg h1]
  by_cases h : ((n : Int) - 1 > -1)
  · rw [if_pos h]
    have e : -(-1 : Int) = 1 := by omega
    rw [e, Int.ediv_one]
    omega
  · rw [if_neg h]
    omega
theorem as_sliceApplied_rev {sl : Addr} {vlk vuk vs : Value} {n : Nat} {Q : Int × Int × Nat → Shared → Prop} (hsk : s.heap.IsSliceOf sl vlk vuk vs) (pl : IsPart vlk none) (pu : IsPart vuk none) (ps : IsPart vs (some (-1)))
    (h : Q ((n : Int) - 1, -1, n) s) : wpAny (model prog w) A (Builtin.Slice.sliceApplied (.ref sl) (pure (n : Int))) Q E s := by
  obtain ⟨osk, hosk, hcsk, hdsk⟩ := id hsk
  unfold Builtin.Slice.sliceApplied Builtin.Slice.sliceFields
  refine wpAny_bind (wpAny_bind (wpAny_field hosk hdsk (x := vlk) rfl (wpAny_bind (wpAny_field hosk hdsk (x := vuk) rfl (wpAny_bind (wpAny_field hosk hdsk (x := vs) rfl (wpAny_pure ?_)))))))
  refine wpAny_bind (slicePart_ ps ?_)
  show wpAny _ _ (if ((-1 : Int) == 0) = true then _ else _) _ _ s
  rw [if_neg (by decide)]
  refine wpAny_bind (slicePart_ pl (wpAny_bind (slicePart_ pu (wpAny_bind (wpAny_pure ?_)))))
  show wpAny _ _ (match Builtin.Slice.sliceAdjust none none (-1) (n : Int) with | (lo, hik) => pure (lo, (-1 : Int), Builtin.Slice.slicePlaces lo hik (-1))) _ _ s
  rw [as_adjust_rev n]
  show wpAny _ _ (pure ((n : Int) - 1, (-1 : Int), Builtin.Slice.slicePlaces ((n : Int) - 1) (-1) (-1))) _ _ s
  rw [as_places_rev]
  exact wpAny_pure h
theorem as_pick_rev (xs : Array Value) : ((List.range xs.size).filterMap fun (m : Nat) => xs[((xs.size : Int) - 1 + (m : Int) * (-1)).toNat]?).toArray = xs.toList.reverse.toArray := by
  have e : (List.range xs.size).filterMap (fun (m : Nat) => xs[((xs.size : Int) - 1 + (m : Int) * (-1)).toNat]?) = ((List.range xs.size).map fun k => xs.size - 1 - k).filterMap (fun k => xs[k]?) := by
    rw [List.filterMap_map]
    congr 1
    funext m
    have : ((xs.size : Int) - 1 + (m : Int) * (-1)).toNat = xs.size - 1 - m := by omega
    simp only [this, Function.comp]
  rw [e, PySem.W.krv_range, List.filterMap_reverse, PySem.W.krv_all]
theorem as_getItem_rev {t sl : Addr} {items : Array Value} {vlk vuk vs : Value} {Q : Value → Shared → Prop} (htk : IsTup s.heap t items) (hsk : s.heap.IsSliceOf sl vlk vuk vs) (pl : IsPart vlk none) (pu : IsPart vuk none) (ps : IsPart vs (some (-1)))
    (h : Q (.ref s.heap.objs.size) { s with heap := s.heap.push { cls := .type "tuple", data := .seq items.toList.reverse.toArray } })
    (hszk : items.size ≤ sizeLine) : wpAny (model prog w) A (getItem (.ref t) (.ref sl)) Q E s := by
  have htakek : sizeOk (.seq items.toList.reverse.toArray) := by
    show items.toList.reverse.toArray.size ≤ sizeLine
    rw [List.size_toArray, List.length_reverse, Array.length_toList]
    exact hszk
  obtain ⟨osk, hosk, hcsk, hdsk⟩ := id hsk
  have hTsk : s.TypeIs (.ref sl) "slice" := ⟨osk, hosk, hcsk⟩
  unfold getItem
  try with_reducible refine wpAny_holding ?_
  first | refine wpAny_bind (wpAny_pure ?_) | skip
  refine wpAny_bind (wpAny_sequenceKey htk.typeIs (by decide) ?_)
  refine wpAny_bind (wpAny_callSpecial?_slot (name := Str.ofString "__getitem__") htk.typeIs PyProof.Rows.slot_tuple_getitem
    (wpAny_call_entry PyProof.Rows.slot_tuple_getitem htk.typeIs entry_tuple_getitem ?_ (args_tuple_getitem _ _)))
  show wpAny _ _ (Builtin.Tuple.tupleItemsOf (.ref t) >>= _) _ _ s
  refine wpAny_bind (tupleItemsOf_ htk ?_)
  refine wpAny_bind (wpAny_typeOf hTsk ?_)
  rw [if_pos (by decide)]
  refine wpAny_bind (as_sliceApplied_rev hsk pl pu ps ?_)
  have hno : ¬ ((((items.size : Int) - 1) == 0 && (-1 : Int) == 1 && items.size == items.size) = true) := by
    intro q
    rw [Bool.and_eq_true, Bool.and_eq_true] at q
    exact absurd (eq_of_beq q.1.2) (by decide)
  show wpAny _ _ (if (((items.size : Int) - 1) == 0 && (-1 : Int) == 1 && items.size == items.size) = true then _ else _) _ _ s
  rw [if_neg hno, as_pick_rev]
  first
    | exact wpAny_bind (m := Builtin.Tuple.tupleExact _) (wpAny_newObj_type (wpAny_pure ⟨_, rfl, wpAny_pure h⟩) htakek)
    | exact wpAny_bind (m := Builtin.Tuple.tupleExact _) (wpAny_newObj_type (wpAny_bind (wpAny_pure (wpAny_pure ⟨_, rfl, wpAny_pure h⟩))) htakek)
    | exact wpAny_bind (wpAny_bind (m := Builtin.Tuple.tupleExact _) (wpAny_newObj_type (wpAny_pure (wpAny_pure ⟨_, rfl, wpAny_pure h⟩)) htakek))
    | exact wpAny_bind (wpAny_bind (m := Builtin.Tuple.tupleExact _) (wpAny_newObj_type (wpAny_pure ⟨_, rfl, wpAny_pure h⟩) htakek))
end
end HT
namespace L2
open PySem PySem.Spec PyProof.Rows
section
variable {X : Cx}
def tRevT (K : PySem.W.Frag) (te : TE) : TE := fun σ H Q => te σ H fun x H1k => ∃ a xs, x = .ref a ∧ SqT K H1k a xs ∧ ∀ p, H1k p = none → Q (.ref p) (upd H1k p (.tup xs.reverse))
theorem pe_revT {e : Expr} {te : TE} {k : Nat} {p1 p2 p3 pos : Pos} (hek : PE X e te) : PE X (.Subscript e (.Slice none none (some (.UnaryOp .USub (.Constant (.int 1) k p1) p2)) p3) pos) (tRevT X.K te) := by
  refine ⟨fun pinsk s σ H Q Ik h => ?_⟩
  refine Subscript_ (thn (hek.run pinsk s σ H _ Ik h) fun v s1k ⟨x, H1k, I1k, r1k, q1k⟩ => ?_)
  obtain ⟨a, xs, exk, hxk, q⟩ := q1k
  subst exk
  cases r1k
  have hstk : PO X (some (.UnaryOp .USub (.Constant (.int 1) k p1) p2)) (tPart (tUn (rU fun i => .int (-i)) (tC (.int 1)))) := po_some (pe_un un_neg pe_int)
  refine wpAny_Slice (thn (po_none.run pinsk s1k σ H1k (fun o H2k => o = none ∧ H2k = H1k) I1k ⟨rfl, rfl⟩) fun vlk s2k ⟨l, H2k, I2k, pl, elk, e2k⟩ => ?_)
  subst elk e2k
  refine thn (po_none.run pinsk s2k σ H2k (fun o H3k => o = none ∧ H3k = H2k) I2k ⟨rfl, rfl⟩) fun vuk s3k ⟨u, H3k, I3, pu, euk, e3k⟩ => ?_
  subst euk e3k
  refine thn (hstk.run pinsk s3k σ H3k (fun o H4k => o = some (-1) ∧ H4k = H3k) I3 ⟨1, rfl, -1, rfl, rfl, rfl⟩) fun vs s4k ⟨o, H4k, I4, ps, eok, e4k⟩ => ?_
  subst eok e4k
  have I5k : Inv X pinsk σ H4k { s4k with heap := s4k.heap.push { cls := .type "slice", data := .fields #[vlk, vuk, vs] } } := I4.kept (t' := s4k.toks) fun b ob q => Heap.get?_push_of_some _ q
  obtain ⟨itsk, r, htk, hzk⟩ := I5k.tuple hxk
  have hlen := r.length
  show wpAny (model X.prog X.w) X.A (subscriptTail e (.Slice none none (some (.UnaryOp .USub (.Constant (.int 1) k p1) p2)) p3) (.ref a) (.ref s4k.heap.objs.size)) (EP X pinsk σ Q) X.xe { s4k with heap := s4k.heap.push { cls := .type "slice", data := .fields #[vlk, vuk, vs] } }
  refine tail_any (ops := [.ref a, .ref s4k.heap.objs.size]) htk.typeIs (PyProof.Rows.slot_tuple_getitem.lookup) ?_ (by with_unfolding_all rfl)
  refine HT.as_getItem_rev htk (Heap.IsSliceOf.new _ vlk vuk vs) pl pu ps ?_ (by rw [List.size_toArray]; omega)
  refine ⟨.ref _, _, I5k.laid (t' := s4k.toks) (o := .tup xs.reverse) (fun b ob q => Heap.get?_push_of_some _ q) (Nat.le_refl _) ?_, rfl, q _ (I5k.hok.fresh (Nat.le_refl _))⟩
  exact ⟨by rw [List.length_reverse]; exact hzk, _, r.reverse, ⟨_, Heap.get?_push_size _ rfl, rfl, _, rfl⟩⟩
end
end L2

namespace As
open PySem PySem.Spec PyProof.Rows L2
/-! ### heaps: all but the well of draws stays -/
def ExS (st : Addr) (H H' : Hp) : Prop := ∀ a o, a ≠ st → H a = some o → H' a = some o
theorem ExS.refl (st : Addr) (H : Hp) : ExS st H H := fun _ _ _ h => h
theorem ExS.trans {st : Addr} {H H1 H2 : Hp} (a : ExS st H H1) (b : ExS st H1 H2) : ExS st H H2 := fun x o n h => b x o n (a x o n h)
theorem ExS.of {st : Addr} {H H' : Hp} (e : Same H H') : ExS st H H' := fun a o _ h => e a o h
theorem same_new {H : Hp} {p : Addr} {o : HO} (h : H p = none) : Same H (upd H p o) := fun a u e => by
  rw [upd_ne (ne_of_none e h)]
  exact e
theorem ExS.new {st : Addr} {H : Hp} {p : Addr} {o : HO} (h : H p = none) : ExS st H (upd H p o) := .of (same_new h)
theorem ExS.at_ {st : Addr} {H : Hp} {o : HO} : ExS st H (upd H st o) := fun a u n e => by
  rw [upd_ne n]
  exact e
theorem Same.new {H H' : Hp} {p : Addr} {o : HO} (e : Same H H') (h : H' p = none) : Same H (upd H' p o) := Same.trans e (same_new h)
theorem Same.mut {H H' : Hp} {p : Addr} {o : HO} (e : Same H H') (h : H p = none) : Same H (upd H' p o) := fun a u ha => by
  rw [upd_ne (ne_of_none ha h)]
  exact e a u ha
theorem ExS.seq {K : PySem.W.Frag} {st : Addr} {H H' : Hp} {a : Addr} {xs : List V} (n : a ≠ st) (e : ExS st H H') (h : SqL K H a xs) : SqL K H' a xs := by
  rcases h with (h | ⟨o, h⟩) | h
  · exact .inl (.inl (e _ _ n h))
  · exact .inl (.inr ⟨o, e _ _ n h⟩)
  · exact .inr h
/-! ### data -/
inductive D where
  | non
  | bl (b : Bool)
  | int (i : Int)
  | str (z : Str)
  | tup (ds : List D)
  | lst (ds : List D)
  | dct
mutual
inductive TD (st : Addr) (H : Hp) : V → D → Prop
  | non : TD st H .non .non
  | bl (b : Bool) : TD st H (.bl b) (.bl b)
  | int (i : Int) : TD st H (.int i) (.int i)
  | str (z : Str) : TD st H (.str z) (.str z)
  | tup {a : Addr} {xs : List V} {ds : List D} : a ≠ st → H a = some (.tup xs) → TDs st H xs ds → TD st H (.ref a) (.tup ds)
  | lst {a : Addr} {xs : List V} {ds : List D} : a ≠ st → H a = some (.lst xs) → TDs st H xs ds → TD st H (.ref a) (.lst ds)
  | dct {a : Addr} : a ≠ st → H a = some (.dK []) → TD st H (.ref a) .dct
inductive TDs (st : Addr) (H : Hp) : List V → List D → Prop
  | nil : TDs st H [] []
  | cons {v : V} {vs : List V} {d : D} {ds : List D} : TD st H v d → TDs st H vs ds → TDs st H (v :: vs) (d :: ds)
end
mutual
theorem TD.mono {st : Addr} {H H' : Hp} (e : ExS st H H') : ∀ {v : V} {d : D}, TD st H v d → TD st H' v d
  | _, _, .non => .non
  | _, _, .bl b => .bl b
  | _, _, .int i => .int i
  | _, _, .str z => .str z
  | _, _, .tup n h t => .tup n (e _ _ n h) (TDs.mono e t)
  | _, _, .lst n h t => .lst n (e _ _ n h) (TDs.mono e t)
  | _, _, .dct n h => .dct n (e _ _ n h)
theorem TDs.mono {st : Addr} {H H' : Hp} (e : ExS st H H') : ∀ {vs : List V} {ds : List D}, TDs st H vs ds → TDs st H' vs ds
  | _, _, .nil => .nil
  | _, _, .cons h t => .cons (TD.mono e h) (TDs.mono e t)
end
theorem TDs.length {st : Addr} {H : Hp} : ∀ {vs : List V} {ds : List D}, TDs st H vs ds → vs.length = ds.length
  | _, _, .nil => rfl
  | _, _, .cons _ t => congrArg (· + 1) t.length
theorem TDs.get {st : Addr} {H : Hp} : ∀ {vs : List V} {ds : List D} {i : Nat} {v : V}, TDs st H vs ds → vs[i]? = some v → ∃ d, ds[i]? = some d ∧ TD st H v d
  | _, _, i, _, .nil, h => by simp at h
  | _, _, 0, _, .cons h _, e => by
    have e' := Option.some.inj e
    subst e'
    exact ⟨_, rfl, h⟩
  | _, _, i + 1, _, .cons _ t, e => t.get (i := i) e
theorem TDs.append {st : Addr} {H : Hp} : ∀ {vs ws : List V} {ds es : List D}, TDs st H vs ds → TDs st H ws es → TDs st H (vs ++ ws) (ds ++ es)
  | _, _, _, _, .nil, h => h
  | _, _, _, _, .cons h t, r => .cons h (t.append r)
theorem TDs.drop {st : Addr} {H : Hp} : ∀ {vs : List V} {ds : List D} (n : Nat), TDs st H vs ds → TDs st H (vs.drop n) (ds.drop n)
  | _, _, 0, h => h
  | _, _, _ + 1, .nil => .nil
  | _, _, n + 1, .cons _ t => t.drop n
theorem TDs.take {st : Addr} {H : Hp} : ∀ {vs : List V} {ds : List D} (n : Nat), TDs st H vs ds → TDs st H (vs.take n) (ds.take n)
  | _, _, 0, _ => .nil
  | _, _, _ + 1, .nil => .nil
  | _, _, n + 1, .cons h t => .cons h (t.take n)
theorem TDs.rev {st : Addr} {H : Hp} : ∀ {vs : List V} {ds : List D}, TDs st H vs ds → TDs st H vs.reverse ds.reverse
  | _, _, .nil => .nil
  | _, _, .cons h t => by
    rw [List.reverse_cons, List.reverse_cons]
    exact t.rev.append (.cons h .nil)
theorem TDs.rep {st : Addr} {H : Hp} {v : V} {d : D} (h : TD st H v d) : ∀ n : Nat, TDs st H (List.replicate n v) (List.replicate n d)
  | 0 => .nil
  | n + 1 => .cons h (TDs.rep h n)
theorem TDs.cut {st : Addr} {H : Hp} {vs : List V} {ds : List D} (lo hi : Option Int) (h : TDs st H vs ds) : ∃ es, TDs st H (cutV vs lo hi) es := ⟨_, (h.drop _).take _⟩
def tyD : D → String
  | .non => "NoneType"
  | .bl _ => "bool"
  | .int _ => "int"
  | .str _ => "str"
  | .tup _ => "tuple"
  | .lst _ => "list"
  | .dct => "dict"
theorem TD.ty {K : PySem.W.Frag} {st : Addr} {H : Hp} {v : V} {d : D} (h : TD st H v d) : TyX K H v (.type (tyD d)) := by
  cases h with
  | non => exact .base .non
  | bl b => exact .base (.bl b)
  | int i => exact .base (.int i)
  | str z => exact .base (.str z)
  | tup n h t => exact .base (.tup h)
  | lst n h t => exact .base (.lst h)
  | dct n h => exact .base (.dK h)
def isInt : D → Bool
  | .bl _ => true
  | .int _ => true
  | _ => false
def isBool : D → Bool
  | .bl _ => true
  | _ => false
def isStr : D → Bool
  | .str _ => true
  | _ => false
def isTup : D → Bool
  | .tup _ => true
  | _ => false
def isLst : D → Bool
  | .lst _ => true
  | _ => false
theorem kit_int (d : D) : kitB (tyD d) "int" = some (isInt d) := by
  cases d with
  | non => exact (show kitB "NoneType" "int" = some false by decide +kernel)
  | bl _ => exact (show kitB "bool" "int" = some true by decide +kernel)
  | int _ => exact (show kitB "int" "int" = some true by decide +kernel)
  | str _ => exact (show kitB "str" "int" = some false by decide +kernel)
  | tup _ => exact (show kitB "tuple" "int" = some false by decide +kernel)
  | lst _ => exact (show kitB "list" "int" = some false by decide +kernel)
  | dct => exact (show kitB "dict" "int" = some false by decide +kernel)
theorem kit_bool (d : D) : kitB (tyD d) "bool" = some (isBool d) := by
  cases d with
  | non => exact (show kitB "NoneType" "bool" = some false by decide +kernel)
  | bl _ => exact (show kitB "bool" "bool" = some true by decide +kernel)
  | int _ => exact (show kitB "int" "bool" = some false by decide +kernel)
  | str _ => exact (show kitB "str" "bool" = some false by decide +kernel)
  | tup _ => exact (show kitB "tuple" "bool" = some false by decide +kernel)
  | lst _ => exact (show kitB "list" "bool" = some false by decide +kernel)
  | dct => exact (show kitB "dict" "bool" = some false by decide +kernel)
theorem kit_str (d : D) : kitB (tyD d) "str" = some (isStr d) := by
  cases d with
  | non => exact (show kitB "NoneType" "str" = some false by decide +kernel)
  | bl _ => exact (show kitB "bool" "str" = some false by decide +kernel)
  | int _ => exact (show kitB "int" "str" = some false by decide +kernel)
  | str _ => exact (show kitB "str" "str" = some true by decide +kernel)
  | tup _ => exact (show kitB "tuple" "str" = some false by decide +kernel)
  | lst _ => exact (show kitB "list" "str" = some false by decide +kernel)
  | dct => exact (show kitB "dict" "str" = some false by decide +kernel)
theorem kit_tup (d : D) : kitB (tyD d) "tuple" = some (isTup d) := by
  cases d with
  | non => exact (show kitB "NoneType" "tuple" = some false by decide +kernel)
  | bl _ => exact (show kitB "bool" "tuple" = some false by decide +kernel)
  | int _ => exact (show kitB "int" "tuple" = some false by decide +kernel)
  | str _ => exact (show kitB "str" "tuple" = some false by decide +kernel)
  | tup _ => exact (show kitB "tuple" "tuple" = some true by decide +kernel)
  | lst _ => exact (show kitB "list" "tuple" = some false by decide +kernel)
  | dct => exact (show kitB "dict" "tuple" = some false by decide +kernel)
theorem kit_lst (d : D) : kitB (tyD d) "list" = some (isLst d) := by
  cases d with
  | non => exact (show kitB "NoneType" "list" = some false by decide +kernel)
  | bl _ => exact (show kitB "bool" "list" = some false by decide +kernel)
  | int _ => exact (show kitB "int" "list" = some false by decide +kernel)
  | str _ => exact (show kitB "str" "list" = some false by decide +kernel)
  | tup _ => exact (show kitB "tuple" "list" = some false by decide +kernel)
  | lst _ => exact (show kitB "list" "list" = some true by decide +kernel)
  | dct => exact (show kitB "dict" "list" = some false by decide +kernel)
theorem isi {K : PySem.W.Frag} {st : Addr} {H : Hp} {v : V} {d : D} {n : String} {b : Bool} {Q : VK} (h : TD st H v d) (k : kitB (tyD d) n = some b) (q : Q (.bl b) H) : rIsi K [v, .ty n] H Q :=
  ⟨v, .ty n, _, _, b, rfl, .ty n, h.ty, kit_ty k, q⟩
/-! ### steps -/
abbrev Pr := Str × Int
def stepD (p : Pr) : D := .tup [.str p.1, .int p.2]
def wR : Str := "read"
def wW : Str := "write"
def wordB (z : Str) : Bool := decide (z = wR) || decide (z = wW)
def boxB (i : Int) : Bool := decide (0 ≤ i) && decide (i ≤ 100000000)
def asPr : D → Option Pr
  | .tup [.str z, .int i] => if wordB z && boxB i then some (z, i) else none
  | _ => none
def isStep (d : D) : Bool := (asPr d).isSome
theorem asPr_some {d : D} {p : Pr} (h : asPr d = some p) : d = stepD p ∧ wordB p.1 = true ∧ boxB p.2 = true := by
  unfold asPr at h
  split at h
  · split at h
    · rename_i z i hc
      have e := Option.some.inj h
      subst e
      rw [Bool.and_eq_true] at hc
      exact ⟨rfl, hc.1, hc.2⟩
    · cases h
  · cases h
theorem asPr_step {p : Pr} (h1 : wordB p.1 = true) (h2 : boxB p.2 = true) : asPr (stepD p) = some p := by
  show (if (wordB p.1 && boxB p.2) = true then some (p.1, p.2) else none) = some p
  rw [h1, h2]
  rfl
/-- the place of a step among those ahead: what the program asks, and what the law does -/
def mayP (p : Pr) (l : List Pr) : Bool := !decide (p ∈ l) && !decide ((wW, p.2) ∈ l)
def mayL (p : Pr) (l : List Pr) : Bool := !decide (p ∈ l) && !(decide (p.1 = wR) && decide ((wW, p.2) ∈ l))
theorem may_eq {p : Pr} (h : wordB p.1 = true) (l : List Pr) : mayP p l = mayL p l := by
  unfold mayP mayL
  obtain ⟨z, i⟩ := p
  unfold wordB at h
  rw [Bool.or_eq_true, decide_eq_true_eq, decide_eq_true_eq] at h
  rcases h with h | h
  · have h' : z = wR := h
    subst h'
    rw [decide_eq_true (show (wR, i).1 = wR from rfl), Bool.true_and]
  · have h' : z = wW := h
    subst h'
    have n : ¬ (wW = wR) := by decide
    rw [decide_eq_false (show ¬ (wW, i).1 = wR from n), Bool.false_and]
    cases hd : decide ((wW, i) ∈ l) <;> simp_all
/-- the pairs of a list of steps -/
def prs : List D → Option (List Pr)
  | [] => some []
  | d :: ds => match asPr d, prs ds with
    | some p, some l => some (p :: l)
    | _, _ => none
theorem prs_some : ∀ {ds : List D} {l : List Pr}, prs ds = some l → ds = l.map stepD ∧ (∀ p ∈ l, wordB p.1 = true ∧ boxB p.2 = true)
  | [], l, h => by
    have e : [] = l := Option.some.inj h
    subst e
    exact ⟨rfl, fun p hp => by cases hp⟩
  | d :: ds, l, h => by
    unfold prs at h
    split at h
    · rename_i p r h1 h2
      have e := Option.some.inj h
      subst e
      obtain ⟨e1, w1, b1⟩ := asPr_some h1
      obtain ⟨e2, w2⟩ := prs_some h2
      refine ⟨by rw [e1, e2]; rfl, fun q hq => ?_⟩
      rcases List.mem_cons.mp hq with e | e
      · rw [e]; exact ⟨w1, b1⟩
      · exact w2 q e
    · cases h
theorem prs_isSome : ∀ ds : List D, (prs ds).isSome = ds.all isStep
  | [] => rfl
  | d :: ds => by
    have ih := prs_isSome ds
    rw [List.all_cons, ← ih]
    show (match asPr d, prs ds with | some p, some l => some (p :: l) | _, _ => none).isSome = (isStep d && (prs ds).isSome)
    cases h1 : asPr d with
    | none =>
      have e : isStep d = false := by unfold isStep; rw [h1]; rfl
      rw [e, Bool.false_and]
      rfl
    | some p =>
      have e : isStep d = true := by unfold isStep; rw [h1]; rfl
      rw [e, Bool.true_and]
      cases h2 : prs ds with
      | none => rfl
      | some l => rfl
theorem prs_of {l : List Pr} (h : ∀ p ∈ l, wordB p.1 = true ∧ boxB p.2 = true) : prs (l.map stepD) = some l := by
  induction l with
  | nil => rfl
  | cons p l ih =>
    have hp := h p (List.mem_cons_self ..)
    rw [List.map_cons]
    unfold prs
    rw [asPr_step hp.1 hp.2, ih fun q hq => h q (List.mem_cons_of_mem _ hq)]
/-- all places may follow -/
def follow (m : Pr → List Pr → Bool) (l : List Pr) : Bool := (List.range l.length).all fun i => match l[i]? with
  | some p => m p (l.take i)
  | none => true
def isDealing : D → Bool
  | .tup ds => decide (1 ≤ ds.length) && decide (ds.length ≤ 8) && match prs ds with
    | some l => follow mayP l
    | none => false
  | _ => false
def areDealings : D → Bool
  | .lst ds => decide (1 ≤ ds.length) && decide (ds.length ≤ 100) && ds.all isDealing
  | _ => false
/-! ### steps as the library's data -/
def stepP (p : Pr) : PyData := .tuple [.str p.1, .int p.2]
theorem word_ok {z : Str} (h : wordB z = true) : PyData.strOk z = true := by
  unfold wordB at h
  rw [Bool.or_eq_true, decide_eq_true_eq, decide_eq_true_eq] at h
  rcases h with h | h
  · subst h; decide +kernel
  · subst h; decide +kernel
theorem stepP_lay {p : Pr} (h : wordB p.1 = true) : (stepP p).canLay0 = true := by simp [stepP, PyData.canLay0, PyData.canLayAll0, word_ok h]
theorem stepP_depth (p : Pr) : (stepP p).depth = 1 := by simp [stepP, PyData.depth, PyData.depthAll]
theorem stepPs_lay : ∀ {l : List Pr}, (∀ p ∈ l, wordB p.1 = true) → PyData.canLayAll0 (l.map stepP) = true
  | [], _ => by simp [PyData.canLayAll0]
  | p :: l, h => by simp [PyData.canLayAll0, stepP_lay (h p (List.mem_cons_self ..)), stepPs_lay fun q hq => h q (List.mem_cons_of_mem _ hq)]
theorem stepPs_depth : ∀ l : List Pr, PyData.depthAll (l.map stepP) ≤ 1
  | [] => by simp [PyData.depthAll]
  | p :: l => by
    have h1 := stepPs_depth l
    have h2 := stepP_depth p
    simp only [List.map_cons, PyData.depthAll]
    omega
theorem stepP_shaped {p : Pr} (hw : wordB p.1 = true) : SeqAt.shaped (stepP p) = true := by
  have h := stepP_depth p
  show ((stepP p).canLay0 && decide ((stepP p).depth ≤ 64)) = true
  rw [Bool.and_eq_true]
  exact ⟨stepP_lay hw, decide_eq_true (by omega)⟩
theorem stepPs_shapedT {l : List Pr} (hw : ∀ p ∈ l, wordB p.1 = true) : SeqAt.shaped (.tuple (l.map stepP)) = true := by
  have h1 := stepPs_depth l
  have h2 : PyData.depth (.tuple (l.map stepP)) ≤ 64 := by
    simp only [PyData.depth]
    omega
  show (PyData.canLay0 (.tuple (l.map stepP)) && decide (PyData.depth (.tuple (l.map stepP)) ≤ 64)) = true
  rw [Bool.and_eq_true]
  exact ⟨by simp only [PyData.canLay0]; exact stepPs_lay hw, decide_eq_true h2⟩
theorem stepPs_shapedL {l : List Pr} (hw : ∀ p ∈ l, wordB p.1 = true) : SeqAt.shaped (.list (l.map stepP)) = true := by
  have h1 := stepPs_depth l
  have h2 : PyData.depth (.list (l.map stepP)) ≤ 64 := by
    simp only [PyData.depth]
    omega
  show (PyData.canLay0 (.list (l.map stepP)) && decide (PyData.depth (.list (l.map stepP)) ≤ 64)) = true
  rw [Bool.and_eq_true]
  exact ⟨by simp only [PyData.canLay0]; exact stepPs_lay hw, decide_eq_true h2⟩
theorem stepP_eqv (p q : Pr) : PyData.eqv (stepP p) (stepP q) = decide (p = q) := by
  obtain ⟨z, i⟩ := p
  obtain ⟨y, j⟩ := q
  have e : PyData.eqv (stepP (z, i)) (stepP (y, j)) = ((z == y) && ((i == j) && true)) := by simp only [stepP, PyData.eqv, PyData.eqvAll]
  rw [e]
  by_cases h1 : z = y
  · by_cases h2 : i = j
    · subst h1 h2
      simp
    · have q : (i == j) = false := beq_eq_false_iff_ne.mpr h2
      rw [q, Bool.false_and, Bool.and_false, decide_eq_false]
      intro z
      exact h2 (Prod.mk.inj z).2
  · have q : (z == y) = false := beq_eq_false_iff_ne.mpr h1
    rw [q, Bool.false_and, decide_eq_false]
    intro z
    exact h1 (Prod.mk.inj z).1
theorem any_step (l : List Pr) (p : Pr) : ((l.map stepP).any fun z => PyData.eqv z (stepP p)) = decide (p ∈ l) := by
  induction l with
  | nil => simp
  | cons q l ih =>
    rw [List.map_cons, List.any_cons, ih, stepP_eqv]
    by_cases h1 : q = p
    · subst h1
      simp
    · have h1' : ¬ p = q := fun e => h1 e.symm
      rw [decide_eq_false h1, Bool.false_or]
      exact decide_eq_decide.mpr ⟨fun h => List.mem_cons_of_mem _ h, fun h => (List.mem_cons.mp h).resolve_left h1'⟩
theorem TD.stepDp {K : PySem.W.Frag} {st : Addr} {H : Hp} {v : V} {p : Pr} (h : TD st H v (stepD p)) : Dp K H v (stepP p) := by
  cases h with
  | tup n h t =>
    cases t with
    | cons h1 t =>
      cases t with
      | cons h2 t =>
        cases t
        cases h1
        cases h2
        exact .tup (.inl (.inl h)) (.cons (.str _) (.cons (.int _) .nil))
theorem TDs.stepsDp {K : PySem.W.Frag} {st : Addr} {H : Hp} : ∀ {l : List Pr} {vs : List V}, TDs st H vs (l.map stepD) → DpAll K H vs (l.map stepP)
  | [], _, h => by
    cases h
    exact .nil
  | p :: l, _, h => by
    cases h with
    | cons h t => exact .cons h.stepDp t.stepsDp
theorem TD.stepV {st : Addr} {H : Hp} {v : V} {p : Pr} (h : TD st H v (stepD p)) : ∃ b, v = .ref b ∧ b ≠ st ∧ H b = some (.tup [.str p.1, .int p.2]) := by
  cases h with
  | @tup b ys _ n h t =>
    cases t with
    | cons h1 t =>
      cases t with
      | cons h2 t =>
        cases t
        cases h1
        cases h2
        exact ⟨b, rfl, n, h⟩
theorem TDs.stepsT {st : Addr} {H H' : Hp} (e : ∀ a ys, a ≠ st → H a = some (.tup ys) → H' a = some (.tup ys)) : ∀ {l : List Pr} {vs : List V}, TDs st H vs (l.map stepD) → TDs st H' vs (l.map stepD)
  | [], _, h => by
    cases h
    exact .nil
  | p :: l, _, h => by
    cases h with
    | cons h t =>
      obtain ⟨b, rfl, n, hb⟩ := h.stepV
      exact .cons (.tup n (e _ _ n hb) (.cons (.str _) (.cons (.int _) .nil))) (t.stepsT e)
end As

namespace As
open PySem PySem.Spec PyProof.Rows L2
theorem hu65 {A : Around} {k : Nat} (hr : Room k A) : A.units + 65 < cLine := by have := hr.un; omega
theorem sl_of {n : Nat} (h : n ≤ 100000) : n ≤ sizeLine := Nat.le_trans h (by decide)
theorem sl_lt {n : Nat} (h : n < 100000) : n < sizeLine := Nat.lt_of_lt_of_le h (by decide)
def kept (n : Nat) (t : Nat → Bool) (f : Nat → V) : List V := ((List.range n).filter t).map f
theorem kept_succ (n : Nat) (t : Nat → Bool) (f : Nat → V) : kept (n + 1) t f = kept n t f ++ (if t n then [f n] else []) := by
  unfold kept
  rw [List.range_succ, List.filter_append, List.map_append]
  cases h : t n <;> simp [h]
theorem kept_len (n : Nat) (t : Nat → Bool) (f : Nat → V) : (kept n t f).length ≤ n := by
  unfold kept
  rw [List.length_map]
  have h := List.length_filter_le t (List.range n)
  rw [List.length_range] at h
  exact h
theorem kept_all (n : Nat) (f : Nat → V) : kept n (fun _ => true) f = (List.range n).map f := by
  unfold kept
  congr 1
  exact List.filter_eq_self.mpr fun _ _ => rfl
/-- a comprehension that changes nothing that was there: what it keeps -/
theorem lc_kept {J : It} {n : Nat} {G : Hp → Prop} {Y : Nat → Hp → V → Hp → Prop} (w : Walk J n G Y) {g : TG} {tt : TT} {te : TE} {vs : List Nat} {σ : L2.St} {H1 : Hp} {D : Addr} {Qd : Hp → Prop} (t : Nat → Bool) (f : Nat → V) (hD : H1 D = none) (hn : n ≤ 10000) (hG : ∀ H, Same H1 H → G H)
    (hs : ∀ i x H H' (N : Hp → Prop) (R : VK), i < n → Same H1 H → Y i H x H' → (t i = false → ∀ H'', Same H H'' → N H'') → (t i = true → ∀ H'', Same H H'' → R (f i) H'') →
      g x (wipe σ vs) H' fun σ2 H2 => wipe σ2 vs = wipe σ vs ∧ tt σ2 H2 fun b H3 => if b = true then te σ2 H3 R else N H3)
    (hd : ∀ H, Same H1 H → H D = some (.lst (kept n t f)) → Qd H) :
    ∃ W : Nat → Nat → Hp → Prop, (∃ m, W 0 m (upd H1 D (.lst []))) ∧ ∀ i m H, W i m H →
      (J.stop i H ∧ Qd H) ∨ (J.go i H ∧ ∃ Nx : Hp → Prop, (∀ H', Nx H' → ∃ m', m' < m ∧ W (i + 1) m' H') ∧ ∀ x H', J.yld i H x H' → g x (wipe σ vs) H' fun σ2 H2 => wipe σ2 vs = wipe σ vs ∧ tt σ2 H2 fun b H3 =>
        if b = true then te σ2 H3 fun y H4 => ∃ acc, H4 D = some (.lst acc) ∧ acc.length < sizeLine ∧ Nx (upd H4 D (.lst (acc ++ [y]))) else Nx H3) := by
  refine lc_it w (fun i H => Same H1 H ∧ H D = some (.lst (kept i t f))) ⟨same_new hD, upd_same⟩ (fun i H _ p => hG H p.1) (fun i x H H' hi p y => ?_) (fun H p => hd H p.1 p.2)
  obtain ⟨p1, p2⟩ := p
  refine hs i x H H' _ _ hi p1 y (fun ht H'' e => ⟨Same.trans p1 e, ?_⟩) (fun ht H'' e => ⟨kept i t f, e _ _ p2, sl_lt (by have := kept_len i t f; omega), Same.mut (Same.trans p1 e) hD, ?_⟩)
  · rw [kept_succ, ht, if_neg Bool.false_ne_true, List.append_nil]
    exact e _ _ p2
  · rw [kept_succ, ht, if_pos rfl]
    exact upd_same
theorem yesI {te : TE} {σ : L2.St} {H : Hp} {R : VK} {N : Hp → Prop} (h : te σ H R) : tYes σ H fun b H3 => if b = true then te σ H3 R else N H3 := by
  show if true = true then te σ H R else N H
  exact iteT h
theorem isDealing_eq (ds : List D) : isDealing (.tup ds) = (decide (1 ≤ ds.length) && decide (ds.length ≤ 8) && match prs ds with | some l => follow mayP l | none => false) := rfl
theorem areDealings_eq (ds : List D) : areDealings (.lst ds) = (decide (1 ≤ ds.length) && decide (ds.length ≤ 100) && ds.all isDealing) := rfl
end As

namespace As
open PySem PySem.Spec PyProof.Rows L2
theorem follow_get {m : Pr → List Pr → Bool} {l : List Pr} (h : follow m l = true) {i : Nat} {p : Pr} (hp : l[i]? = some p) : m p (l.take i) = true := by
  unfold follow at h
  rw [List.all_eq_true] at h
  have := h i (List.mem_range.mpr (List.getElem?_eq_some_iff.mp hp).1)
  rw [hp] at this
  exact this
theorem follow_mk {m : Pr → List Pr → Bool} {l : List Pr} (h : ∀ i p, l[i]? = some p → m p (l.take i) = true) : follow m l = true := by
  unfold follow
  rw [List.all_eq_true]
  intro i _
  cases hp : l[i]? with
  | none => rfl
  | some p => exact h i p hp
theorem follow_snoc {m : Pr → List Pr → Bool} {l : List Pr} {p : Pr} (h : follow m l = true) (hp : m p l = true) : follow m (l ++ [p]) = true := by
  refine follow_mk fun i q hq => ?_
  by_cases hi : i < l.length
  · rw [List.getElem?_append_left hi] at hq
    rw [List.take_append_of_le_length (by omega)]
    exact follow_get h hq
  · have ei : i = l.length := by
      have h1 := (List.getElem?_eq_some_iff.mp hq).1
      rw [List.length_append] at h1
      have h2 : ([p] : List Pr).length = 1 := rfl
      omega
    subst ei
    rw [List.getElem?_append_right (Nat.le_refl _), Nat.sub_self] at hq
    have e : p = q := Option.some.inj hq
    subst e
    rw [List.take_append_of_le_length (Nat.le_refl _), List.take_of_length_le (Nat.le_refl _)]
    exact hp
/-- at most two steps of a box -/
theorem two_of_box {m : List Pr} (hf : follow mayP m = true) (hw : ∀ p ∈ m, wordB p.1 = true) (b : Int) (t : Pr → Bool) (ht : ∀ q, t q = true → q.2 = b) : (m.filter t).length ≤ 2 := by
  have nd : m.Pairwise (fun p q => p ≠ q) := by
    rw [List.pairwise_iff_getElem]
    intro i j hi hj hij e
    have h1 := follow_get hf (List.getElem?_eq_getElem hj)
    unfold mayP at h1
    rw [Bool.and_eq_true, Bool.not_eq_true', decide_eq_false_iff_not] at h1
    refine h1.1 ?_
    rw [← e]
    exact List.mem_take_iff_getElem.mpr ⟨i, by omega, rfl⟩
  have nf := nd.filter t
  have mem : ∀ q ∈ m.filter t, q = (wR, b) ∨ q = (wW, b) := fun q hq => by
    have h1 := List.mem_filter.mp hq
    have h2 := ht q h1.2
    have h3 := hw q h1.1
    unfold wordB at h3
    rw [Bool.or_eq_true, decide_eq_true_eq, decide_eq_true_eq] at h3
    rcases h3 with h3 | h3
    · exact .inl (Prod.ext h3 h2)
    · exact .inr (Prod.ext h3 h2)
  match hF : m.filter t, nf, mem with
  | [], _, _ => exact Nat.zero_le _
  | [_], _, _ => exact (by decide : 1 ≤ 2)
  | [_, _], _, _ => exact Nat.le_refl 2
  | x :: y :: z :: r, nf, mem =>
    exfalso
    rw [List.pairwise_cons, List.pairwise_cons] at nf
    obtain ⟨n1, n2, _⟩ := nf
    have xy := n1 y (by simp)
    have xz := n1 z (by simp)
    have yz := n2 z (by simp)
    have mx := mem x (by simp)
    have my := mem y (by simp)
    have mz := mem z (by simp)
    rcases mx with mx | mx <;> rcases my with my | my <;> rcases mz with mz | mz <;> simp_all
end As

namespace As
open PySem PySem.Spec PyProof.Rows L2
def topS (i : Nat) : Stmt := PySem.Challenge.pw_asifalone_k02_what_dealings_touch.main.body.getD i (.Pass ⟨0, 0, 0, 0⟩)
abbrev sIsWhole : Stmt := topS 7
abbrev sIsNumber : Stmt := topS 8
abbrev sIsBox : Stmt := topS 9
abbrev sIsOneOf : Stmt := topS 10
abbrev sIsStep : Stmt := topS 11
abbrev sMayFollow : Stmt := topS 12
abbrev sIsDealing : Stmt := topS 13
theorem scIsWhole : FnScope ["thing"] ["thing"] (defScope sIsWhole) := ⟨rfl, rfl, rfl, by decide +kernel, rfl, by decide +kernel, by decide +kernel⟩
theorem scIsNumber : FnScope ["thing", "many"] ["thing", "many"] (defScope sIsNumber) := ⟨rfl, rfl, rfl, by decide +kernel, rfl, by decide +kernel, by decide +kernel⟩
theorem scIsBox : FnScope ["thing"] ["thing"] (defScope sIsBox) := ⟨rfl, rfl, rfl, by decide +kernel, rfl, by decide +kernel, by decide +kernel⟩
theorem scIsOneOf : FnScope ["thing", "words"] ["thing", "words"] (defScope sIsOneOf) := ⟨rfl, rfl, rfl, by decide +kernel, rfl, by decide +kernel, by decide +kernel⟩
theorem scIsStep : FnScope ["thing"] ["thing"] (defScope sIsStep) := ⟨rfl, rfl, rfl, by decide +kernel, rfl, by decide +kernel, by decide +kernel⟩
theorem scMayFollow : FnScope ["step", "ahead"] ["step", "ahead"] (defScope sMayFollow) := ⟨rfl, rfl, rfl, by decide +kernel, rfl, by decide +kernel, by decide +kernel⟩
theorem scIsDealing : FnScope ["thing", "step", "place"] ["thing"] (defScope sIsDealing) := ⟨rfl, rfl, rfl, by decide +kernel, rfl, by decide +kernel, by decide +kernel⟩
/-- what the module's names hold -/
structure Mg (mg : Str → Option Value) : Prop where
  isinstance : mg "isinstance" = none
  int : mg "int" = none
  bool : mg "bool" = none
  str : mg "str" = none
  tuple : mg "tuple" = none
  list : mg "list" = none
  len : mg "len" = none
  all : mg "all" = none
  set : mg "set" = none
  sorted : mg "sorted" = none
  enumerate : mg "enumerate" = none
  range : mg "range" = none
  max : mg "max" = none
  min : mg "min" = none
  box : ∃ t, mg "MOST_BOX" = some (.int 100000000 t)
  steps : ∃ t, mg "MOST_STEPS" = some (.int 8 t)
section
variable {P : Program} {w : World} {K : PySem.W.Frag} {mg : Str → Option Value} {base : Heap}
/-! ### is_whole -/
def wholeB (d : D) : Bool := isInt d && !isBool d
def spIsWhole : Sp := fun vs H Q _ => ∃ st v d, vs = [v] ∧ TD st H v d ∧ Q (.bl (wholeB d)) H
theorem ok_is_whole {f : Addr} {fd : FuncData} {k : Nat} (F : Fun K "is_whole" "is_whole" sIsWhole f fd) (M : Mg mg) : FnOk P w K mg base CX0 (k + 1) f fd ["thing"] spIsWhole := by
  refine F.ok scIsWhole (fun vs H Q E h => ?_) (fun cdv A outer s H vs Q E hr h => ?_)
  · obtain ⟨st, v, d, rfl, _⟩ := h
    rfl
  · obtain ⟨st, v, d, rfl, td, q⟩ := h
    refine ⟨_, pss_one (ps_ret (pe_and (pe_callB call_isi (by rfl) M.isinstance (by decide +kernel) (pa_cons (pv 0) (pa_cons (pe_bltn (v := .ty "int") (by rfl) M.int (by decide +kernel) rfl) pa_nil)))
      (pe_one (pe_not (pe_callB call_isi (by rfl) M.isinstance (by decide +kernel) (pa_cons (pv 0) (pa_cons (pe_bltn (v := .ty "bool") (by rfl) M.bool (by decide +kernel) rfl) pa_nil))))))), ?_⟩
    refine ⟨v, rfl, v, .ty "int", _, _, _, rfl, .ty _, td.ty, kit_ty (kit_int d), _, rfl, ?_⟩
    unfold wholeB at q
    cases hi : isInt d with
    | true =>
      rw [hi] at q
      exact iteT ⟨v, rfl, v, .ty "bool", _, _, _, rfl, .ty _, td.ty, kit_ty (kit_bool d), _, rfl, q⟩
    | false =>
      rw [hi] at q
      exact iteF q
theorem whole_int {d : D} (h : wholeB d = true) : ∃ i, d = .int i := by
  cases d with
  | int i => exact ⟨i, rfl⟩
  | _ => exact absurd h Bool.false_ne_true
/-! ### is_number -/
def numB : D → Int → Bool
  | .int i, m => decide (0 ≤ i) && decide (i < m)
  | _, _ => false
theorem num_no {d : D} {m : Int} (h : wholeB d = false) : numB d m = false := by
  cases d with
  | int i => exact absurd h.symm Bool.false_ne_true
  | _ => rfl
def spIsNumber : Sp := fun vs H Q _ => ∃ st v d m, vs = [v, .int m] ∧ TD st H v d ∧ Q (.bl (numB d m)) H
theorem ok_is_number {f f1 : Addr} {fd fd1 : FuncData} {k : Nat} (F : Fun K "is_number" "is_number" sIsNumber f fd) (M : Mg mg) (G1 : FnOk P w K mg base CX0 k f1 fd1 ["thing"] spIsWhole) (g1 : mg "is_whole" = some (.ref f1)) (k1 : PySem.W.keepIn K (.ref f1) = true) (b1 : Binds K fd1 ["thing"] []) :
    FnOk P w K mg base CX0 (k + 1) f fd ["thing", "many"] spIsNumber := by
  refine F.ok scIsNumber (fun vs H Q E h => ?_) (fun cdv A outer s H vs Q E hr h => ?_)
  · obtain ⟨st, v, d, m, rfl, _⟩ := h
    rfl
  · obtain ⟨st, v, d, m, rfl, td, q⟩ := h
    refine ⟨_, pss_one (ps_ret (pe_and (pe_call G1 hr (by rfl) g1 k1 b1 .nil pass0 (pa_cons (pv 0) pa_nil))
      (pe_one (pe_chain op_le op_lt pe_int (pv 0) (pv 1))))), ?_⟩
    refine ⟨v, rfl, st, v, d, rfl, td, _, rfl, ?_⟩
    cases hw : wholeB d with
    | false =>
      rw [num_no hw] at q
      exact iteF q
    | true =>
      obtain ⟨i, rfl⟩ := whole_int hw
      cases td
      refine iteT ⟨_, rfl, 0, i, rfl, rfl, _, rfl, ?_⟩
      have q' : Q (.bl (decide (0 ≤ i) && decide (i < m))) H := q
      cases h0 : decide (0 ≤ i) with
      | false =>
        rw [h0] at q'
        exact iteF q'
      | true =>
        rw [h0] at q'
        exact iteT ⟨_, rfl, i, m, rfl, rfl, q'⟩
/-! ### is_box -/
def boxD : D → Bool
  | .int i => boxB i
  | _ => false
theorem num_box (d : D) : numB d (100000000 + 1) = boxD d := by
  cases d with
  | int i =>
    show (decide (0 ≤ i) && decide (i < 100000000 + 1)) = (decide (0 ≤ i) && decide (i ≤ 100000000))
    rw [show decide (i < 100000000 + 1) = decide (i ≤ 100000000) from decide_eq_decide.mpr (by omega)]
  | _ => rfl
def spIsBox : Sp := fun vs H Q _ => ∃ st v d, vs = [v] ∧ TD st H v d ∧ Q (.bl (boxD d)) H
theorem ok_is_box {f f1 : Addr} {fd fd1 : FuncData} {k : Nat} (F : Fun K "is_box" "is_box" sIsBox f fd) (M : Mg mg) (G1 : FnOk P w K mg base CX0 k f1 fd1 ["thing", "many"] spIsNumber) (g1 : mg "is_number" = some (.ref f1)) (k1 : PySem.W.keepIn K (.ref f1) = true) (b1 : Binds K fd1 ["thing", "many"] []) :
    FnOk P w K mg base CX0 (k + 1) f fd ["thing"] spIsBox := by
  refine F.ok scIsBox (fun vs H Q E h => ?_) (fun cdv A outer s H vs Q E hr h => ?_)
  · obtain ⟨st, v, d, rfl, _⟩ := h
    rfl
  · obtain ⟨st, v, d, rfl, td, q⟩ := h
    obtain ⟨tb, mb⟩ := M.box
    refine ⟨_, pss_one (ps_ret (pe_call G1 hr (by rfl) g1 k1 b1 .nil pass0 (pa_cons (pv 0) (pa_cons (pe_add (pe_glob (v := .int 100000000) (by rfl) mb ⟨_, rfl⟩) pe_int) pa_nil)))), ?_⟩
    refine ⟨v, rfl, 100000000, 1, rfl, rfl, st, v, d, 100000000 + 1, rfl, td, ?_⟩
    rw [num_box]
    exact q
/-! ### is_one_of -/
def oneB : D → List Str → Bool
  | .str z, ws => decide (z ∈ ws)
  | _, _ => false
theorem inV_str (z : Str) : ∀ ws : List Str, inV (.str z) (ws.map V.str) = decide (z ∈ ws)
  | [] => by simp [inV]
  | y :: ws => by
    have ih := inV_str z ws
    unfold inV at ih ⊢
    rw [List.map_cons, List.any_cons, ih]
    by_cases e : y = z
    · subst e
      simp [eqV]
    · have e' : ¬ z = y := fun q => e q.symm
      have : eqV (.str y) (.str z) = false := by simp [eqV, e]
      rw [this, Bool.false_or]
      exact decide_eq_decide.mpr ⟨fun h => List.mem_cons_of_mem _ h, fun h => (List.mem_cons.mp h).resolve_left e'⟩
theorem flat_strs : ∀ ws : List Str, (ws.map V.str).all flatV = true
  | [] => rfl
  | y :: ws => by
    rw [List.map_cons, List.all_cons, flat_strs ws]
    rfl
def spIsOneOf (K : PySem.W.Frag) : Sp := fun vs H Q _ => ∃ st v d a ws, vs = [v, .ref a] ∧ TD st H v d ∧ SqT K H a (ws.map V.str) ∧ Q (.bl (oneB d ws)) H
theorem ok_is_one_of {f : Addr} {fd : FuncData} {k : Nat} (F : Fun K "is_one_of" "is_one_of" sIsOneOf f fd) (M : Mg mg) : FnOk P w K mg base CX0 (k + 1) f fd ["thing", "words"] (spIsOneOf K) := by
  refine F.ok scIsOneOf (fun vs H Q E h => ?_) (fun cdv A outer s H vs Q E hr h => ?_)
  · obtain ⟨st, v, d, a, ws, rfl, _⟩ := h
    rfl
  · obtain ⟨st, v, d, a, ws, rfl, td, hS, q⟩ := h
    refine ⟨_, pss_one (ps_ret (pe_and (pe_callB call_isi (by rfl) M.isinstance (by decide +kernel) (pa_cons (pv 0) (pa_cons (pe_bltn (v := .ty "str") (by rfl) M.str (by decide +kernel) rfl) pa_nil)))
      (pe_one (pe_cmpR op_in_seq (pv 0) (pv 1) (by rfl))))), ?_⟩
    refine ⟨v, rfl, v, .ty "str", _, _, _, rfl, .ty _, td.ty, kit_ty (kit_str d), _, rfl, ?_⟩
    cases td with
    | str z => exact iteT ⟨_, rfl, _, rfl, a, ws.map V.str, rfl, .inr hS, rfl, flat_strs ws, by
        show Q (.bl (inV (.str z) (ws.map V.str))) H
        rw [inV_str]
        exact q⟩
    | _ => exact iteF q
/-! ### is_step -/
theorem isStep_pair (x y : D) : isStep (.tup [x, y]) = (oneB x [wR, wW] && boxD y) := by
  cases x with
  | str z =>
    cases y with
    | int i =>
      show ((if (wordB z && boxB i) = true then some (z, i) else none).isSome) = (decide (z ∈ [wR, wW]) && boxB i)
      have e : decide (z ∈ [wR, wW]) = wordB z := by
        unfold wordB
        simp
      rw [e]
      cases (wordB z && boxB i) <;> rfl
    | _ =>
      show false = (_ && false)
      rw [Bool.and_false]
  | _ => rfl
theorem isStep_len {ds : List D} (h : ds.length ≠ 2) : isStep (.tup ds) = false := by
  match ds, h with
  | [], _ => rfl
  | [x], _ => cases x <;> rfl
  | [x, y], h => exact absurd rfl h
  | x :: y :: z :: r, _ =>
    cases x with
    | str z => cases y <;> rfl
    | _ => rfl
theorem isStep_tup {d : D} (h : isTup d = false) : isStep d = false := by
  cases d with
  | tup ds => exact absurd h.symm Bool.false_ne_true
  | _ => rfl
def spD (f : D → Bool) : Sp := fun vs H Q _ => ∃ st v d, vs = [v] ∧ TD st H v d ∧ ∀ H', Same H H' → Q (.bl (f d)) H'
theorem ok_is_step {f f1 f2 : Addr} {fd fd1 fd2 : FuncData} {k : Nat} (F : Fun K "is_step" "is_step" sIsStep f fd) (M : Mg mg) (G1 : FnOk P w K mg base CX0 k f1 fd1 ["thing", "words"] (spIsOneOf K)) (g1 : mg "is_one_of" = some (.ref f1)) (k1 : PySem.W.keepIn K (.ref f1) = true) (b1 : Binds K fd1 ["thing", "words"] [])
    (G2 : FnOk P w K mg base CX0 k f2 fd2 ["thing"] spIsBox) (g2 : mg "is_box" = some (.ref f2)) (k2 : PySem.W.keepIn K (.ref f2) = true) (b2 : Binds K fd2 ["thing"] []) :
    FnOk P w K mg base CX0 (k + 1) f fd ["thing"] (spD isStep) := by
  refine F.ok scIsStep (fun vs H Q E h => ?_) (fun cdv A outer s H vs Q E hr h => ?_)
  · obtain ⟨st, v, d, rfl, _⟩ := h
    rfl
  · obtain ⟨st, v, d, rfl, td, q⟩ := h
    refine ⟨_, pss_cons (ps_if (PW.pt (pw_or (pt_not (pt_val (pe_callB call_isi (by rfl) M.isinstance (by decide +kernel) (pa_cons (pv 0) (pa_cons (pe_bltn (v := .ty "tuple") (by rfl) M.tuple (by decide +kernel) rfl) pa_nil)))))
        (pw_or1 (pt_cmpR op_ne (pe_callB call_len_seq (by rfl) M.len PySem.boot_len (pa_cons (pv 0) pa_nil)) pe_int (nomark _))))) (pss_one (ps_ret pe_bl)) pss_nil)
      (pss_one (ps_ret (pe_and (pe_call G1 hr (by rfl) g1 k1 b1 .nil pass0 (pa_cons (pe_ix ix_tup (pv 0) pe_int (fun _ _ => rfl)) (pa_cons (pe_tup (pa_cons pe_str (pa_cons pe_str pa_nil))) pa_nil)))
        (pe_one (pe_call G2 hr (by rfl) g2 k2 b2 .nil pass0 (pa_cons (pe_ix ix_tup (pv 0) pe_int (fun _ _ => rfl)) pa_nil)))))), ?_⟩
    refine ⟨v, rfl, v, .ty "tuple", _, _, _, rfl, .ty _, td.ty, kit_ty (kit_tup d), _, rfl, ?_⟩
    cases ht : isTup d with
    | false =>
      rw [isStep_tup ht] at q
      exact iteT (iteT (q H (Same.refl H)))
    | true =>
      cases td with
      | @tup a xs ds n h t =>
        refine iteF ⟨.ref a, rfl, a, xs, rfl, .inr (SqT.of h), rfl, _, rfl, ?_⟩
        have hl := t.length
        by_cases h2 : xs.length = 2
        · rw [h2]
          refine iteF ?_
          match xs, ds, t, h2 with
          | [x, y], [dx, dy], .cons tx (.cons ty .nil), _ =>
            refine ⟨.ref a, rfl, a, [x, y], 0, x, rfl, rfl, SqT.of h, rfl, by show 2 ≤ sizeLine; decide, fun p np => ?_⟩
            have s1 : Same H (upd H p (.tup [.str wR, .str wW])) := same_new np
            refine ⟨st, x, dx, p, [wR, wW], rfl, tx.mono (.of s1), SqT.of upd_same, _, rfl, ?_⟩
            rw [isStep_pair] at q
            cases ho : oneB dx [wR, wW] with
            | false =>
              rw [ho] at q
              exact iteF (q _ s1)
            | true =>
              rw [ho] at q
              exact iteT ⟨.ref a, rfl, a, [x, y], 1, y, rfl, rfl, SqT.of (s1 _ _ h), rfl, st, y, dy, rfl, ty.mono (.of s1), q _ s1⟩
        · have e : (!decide (V.int (xs.length : Int) = V.int 2)) = true := by
            rw [Bool.not_eq_true', decide_eq_false_iff_not]
            intro z
            have z' : (xs.length : Int) = 2 := V.int.inj z
            exact h2 (by omega)
          rw [e]
          rw [isStep_len (by omega)] at q
          exact iteT (q H (Same.refl H))
      | _ => exact absurd ht Bool.false_ne_true
/-! ### may_follow -/
def spMay : Sp := fun vs H Q _ => ∃ st v p a xs l, vs = [v, .ref a] ∧ TD st H v (stepD p) ∧ H a = some (.tup xs) ∧ TDs st H xs (l.map stepD) ∧ wordB p.1 = true ∧ (∀ q ∈ l, wordB q.1 = true) ∧ ∀ H', Same H H' → Q (.bl (mayP p l)) H'
theorem ok_may_follow {f : Addr} {fd : FuncData} {k : Nat} (F : Fun K "may_follow" "may_follow" sMayFollow f fd) (M : Mg mg) : FnOk P w K mg base CX0 (k + 1) f fd ["step", "ahead"] spMay := by
  refine F.ok scMayFollow (fun vs H Q E h => ?_) (fun cdv A outer s H vs Q E hr h => ?_)
  · obtain ⟨st, v, p, a, xs, l, rfl, _⟩ := h
    rfl
  · obtain ⟨st, v, p, a, xs, l, rfl, td, h, t, wp, wl, q⟩ := h
    refine ⟨_, pss_one (ps_ret (pe_and (pe_cmpR (op_notInDT (hu65 hr)) (pv 0) (pv 1) (by rfl))
      (pe_one (pe_cmpR (op_notInDT (hu65 hr)) (pe_tup (pa_cons pe_str (pa_cons (pe_ix ix_tup (pv 0) pe_int (fun _ _ => rfl)) pa_nil))) (pv 1) (by rfl))))), ?_⟩
    refine ⟨v, rfl, .ref a, rfl, stepP p, l.map stepP, td.stepDp, .tup (SqT.of h) t.stepsDp, stepP_shaped wp, stepPs_shapedT wl, _, rfl, ?_⟩
    rw [any_step]
    unfold mayP at q
    cases h1 : decide (p ∈ l) with
    | true =>
      rw [h1] at q
      exact iteF (q H (Same.refl H))
    | false =>
      rw [h1] at q
      obtain ⟨b, rfl, nb, hb⟩ := td.stepV
      refine iteT ⟨.ref b, rfl, b, [.str p.1, .int p.2], 1, .int p.2, rfl, rfl, SqT.of hb, rfl, by show 2 ≤ sizeLine; decide, fun c nc => ?_⟩
      have s1 : Same H (upd H c (.tup [.str wW, .int p.2])) := same_new nc
      refine ⟨.ref a, rfl, stepP (wW, p.2), l.map stepP, .tup (SqT.of upd_same) (.cons (.str _) (.cons (.int _) .nil)), .tup (SqT.of (s1 _ _ h)) (t.mono (.of s1)).stepsDp, stepP_shaped (show wordB wW = true by decide +kernel), stepPs_shapedT wl, ?_⟩
      rw [any_step]
      exact q _ s1
/-! ### is_dealing -/
theorem map_range {α : Type} (xs : List α) (g : Nat → α) (h : ∀ i x, xs[i]? = some x → g i = x) : (List.range xs.length).map g = xs := by
  apply List.ext_getElem?
  intro i
  rw [List.getElem?_map]
  by_cases hi : i < xs.length
  · rw [List.getElem?_range hi, List.getElem?_eq_getElem hi]
    exact congrArg some (h i _ (List.getElem?_eq_getElem hi))
  · rw [List.getElem?_eq_none (by rw [List.length_range]; omega), List.getElem?_eq_none (by omega)]
    rfl
theorem isDealing_tup {d : D} (h : isTup d = false) : isDealing d = false := by
  cases d with
  | tup ds => exact absurd h.symm Bool.false_ne_true
  | _ => rfl
theorem cut_to (xs : List V) (i : Nat) : cutV xs none (some (i : Int)) = xs.take i := by
  unfold cutV
  rw [HT.sIx_none, HT.sIx_nat, List.drop_zero, Nat.sub_zero]
  by_cases h : i ≤ xs.length
  · rw [Nat.min_eq_left h]
  · rw [Nat.min_eq_right (by omega), List.take_of_length_le (Nat.le_refl _), List.take_of_length_le (by omega)]
theorem all_id_map {α : Type} (g : α → Bool) (xs : List α) : (xs.map g).all id = xs.all g := by
  rw [List.all_map]
  rfl
theorem ok_is_dealing {f f1 f2 : Addr} {fd fd1 fd2 : FuncData} {k : Nat} (F : Fun K "is_dealing" "is_dealing" sIsDealing f fd) (M : Mg mg) (G1 : FnOk P w K mg base CX0 k f1 fd1 ["thing"] (spD isStep)) (g1 : mg "is_step" = some (.ref f1)) (k1 : PySem.W.keepIn K (.ref f1) = true) (b1 : Binds K fd1 ["thing"] [])
    (G2 : FnOk P w K mg base CX0 k f2 fd2 ["step", "ahead"] spMay) (g2 : mg "may_follow" = some (.ref f2)) (k2 : PySem.W.keepIn K (.ref f2) = true) (b2 : Binds K fd2 ["step", "ahead"] []) :
    FnOk P w K mg base CX0 (k + 1) f fd ["thing"] (spD isDealing) := by
  refine F.ok scIsDealing (fun vs H Q E h => ?_) (fun cdv A outer s H vs Q E hr h => ?_)
  · obtain ⟨st, v, d, rfl, _⟩ := h
    rfl
  · obtain ⟨st, v, d, rfl, td, q⟩ := h
    obtain ⟨ts, ms⟩ := M.steps
    refine ⟨_, pss_cons (ps_if (PW.pt (pw_or (pt_not (pt_val (pe_callB call_isi (by rfl) M.isinstance (by decide +kernel) (pa_cons (pv 0) (pa_cons (pe_bltn (v := .ty "tuple") (by rfl) M.tuple (by decide +kernel) rfl) pa_nil)))))
        (pw_or1 (pt_not (pt_chain op_le op_le pe_int (pe_callB call_len_seq (by rfl) M.len PySem.boot_len (pa_cons (pv 0) pa_nil)) (pe_glob (v := .int 8) (by rfl) ms ⟨_, rfl⟩)))))) (pss_one (ps_ret pe_bl)) pss_nil)
      (pss_cons (ps_if (pt_not (pt_val (pe_callB (cr_all rfl) (by rfl) M.all (by decide +kernel) (pa_cons
          (pe_lc (own := [("step", 1)]) (g := gName 1) (by rfl) scIsDealing.nd (pi_tup (pv 0)) (blkOk_by (own := [("step", 1)]) (N := ["thing", "step", "place"]) (sc := defScope sIsDealing) (by decide +kernel))
            (fun _ _ _ _ _ => pg_name (i := 1) scIsDealing.nd rfl (Or.inl rfl)) (fun _ _ _ _ _ => pts_nil) (fun _ _ _ _ _ => pe_call G1 hr (by rfl) g1 k1 b1 .nil pass0 (pa_cons (pv 1) pa_nil))) pa_nil)))) (pss_one (ps_ret pe_bl)) pss_nil)
      (pss_one (ps_ret (pe_callB (cr_all rfl) (by rfl) M.all (by decide +kernel) (pa_cons
          (pe_lc (own := [("place", 2), ("step", 1)]) (g := gTup K 2 (gCons (gName 2) (gCons (gName 1) gNil))) (by rfl) scIsDealing.nd (pi_enumT (by rfl) M.enumerate (pa_cons (pv 0) pa_nil)) (blkOk_by (own := [("place", 2), ("step", 1)]) (N := ["thing", "step", "place"]) (sc := defScope sIsDealing) (by decide +kernel))
            (fun _ _ _ _ _ => pg_tup rfl (pgs_cons (pg_name (i := 2) scIsDealing.nd rfl (Or.inl rfl)) (pgs_cons (pg_name (i := 1) scIsDealing.nd rfl (Or.inl rfl)) pgs_nil))) (fun _ _ _ _ _ => pts_nil)
            (fun _ _ _ _ _ => pe_call G2 hr (by rfl) g2 k2 b2 .nil pass0 (pa_cons (pv 1) (pa_cons (pe_slice (show SlR _ (rSlA K) from sl_tupA) (pv 0) po_none (po_some (pv 2))) pa_nil)))) pa_nil))))), ?_⟩
    refine ⟨v, rfl, v, .ty "tuple", _, _, _, rfl, .ty _, td.ty, kit_ty (kit_tup d), _, rfl, ?_⟩
    cases ht : isTup d with
    | false =>
      rw [isDealing_tup ht] at q
      exact iteT (iteT (q H (Same.refl H)))
    | true =>
      cases td with
      | @tup a xs ds n h t =>
        have hl := t.length
        refine iteF ⟨.ref a, rfl, a, xs, rfl, .inr (SqT.of h), 1, _, rfl, rfl, _, rfl, ?_⟩
        by_cases h1 : 1 ≤ xs.length
        · rw [decide_eq_true (show (1 : Int) ≤ (xs.length : Int) by omega)]
          refine iteT ⟨_, 8, rfl, rfl, _, rfl, ?_⟩
          by_cases h8 : xs.length ≤ 8
          · rw [decide_eq_true (show (xs.length : Int) ≤ 8 by omega)]
            refine iteF ⟨.ref a, rfl, a, rfl, ⟨_, SqT.of h⟩, fun D1 hD1 => lc_kept walk_tup (fun _ => true) (fun i => .bl (isStep (ds.getD i .non))) hD1 (by omega) (fun H' e => SqT.of (e _ _ h)) (fun i x H2 H3 N R hi e2 y hN hR => ?_) (fun H2 e2 hL => ?_)⟩
            · obtain ⟨rfl, hx⟩ := y
              obtain ⟨di, hdi, tdi⟩ := t.get hx
              refine ⟨rfl, yesI ⟨x, rfl, st, x, di, rfl, tdi.mono (.of e2), fun H4 e4 => ?_⟩⟩
              have e5 : ds.getD i .non = di := by rw [List.getD_eq_getElem?_getD, hdi]; rfl
              have r := hR rfl H4 e4
              simp only [e5] at r
              exact r
            · have e1 : kept xs.length (fun _ => true) (fun i => V.bl (isStep (ds.getD i .non))) = (ds.map isStep).map V.bl := by
                rw [kept_all]
                have e0 : xs.length = ((ds.map isStep).map V.bl).length := by rw [List.length_map, List.length_map]; exact hl
                rw [e0]
                refine map_range _ _ fun i x hx => ?_
                rw [List.getElem?_map, List.getElem?_map] at hx
                cases hd : ds[i]? with
                | none => rw [hd] at hx; cases hx
                | some di =>
                  rw [hd] at hx
                  have e5 : ds.getD i .non = di := by rw [List.getD_eq_getElem?_getD, hd]; rfl
                  rw [e5]
                  exact Option.some.inj hx
              rw [e1] at hL
              refine ⟨D1, ds.map isStep, rfl, SqL.of hL, _, rfl, ?_⟩
              rw [all_id_map, ← prs_isSome]
              have hdl : decide (1 ≤ ds.length) = true := decide_eq_true (by omega)
              have hdl8 : decide (ds.length ≤ 8) = true := decide_eq_true (by omega)
              have q' : ∀ H', Same H H' → Q (.bl (match prs ds with | some l => follow mayP l | none => false)) H' := fun H' e => by
                have := q H' e
                rw [isDealing_eq, hdl, hdl8] at this
                exact this
              cases hp : prs ds with
              | none =>
                rw [hp] at q'
                exact iteT (q' H2 e2)
              | some l =>
                rw [hp] at q'
                obtain ⟨el, wl⟩ := prs_some hp
                have hll : xs.length = l.length := by rw [hl, el, List.length_map]
                have t' : TDs st H xs (l.map stepD) := by rw [← el]; exact t
                refine iteF ⟨.ref a, rfl, a, xs, rfl, SqT.of (e2 _ _ h), fun D2 hD2 => lc_kept walk_enumT (fun _ => true) (fun i => .bl (match l[i]? with | some p => mayP p (l.take i) | none => true)) hD2 (by omega) (fun H' e => SqT.of (e _ _ (e2 _ _ h))) (fun i x H3 H4 N R hi e3 y hN hR => ?_) (fun H3 e3 hL2 => ?_)⟩
                · obtain ⟨T, x1, x2, rfl, nT, rfl, ex1, hx2⟩ := y
                  have ex1' : x1 = .int (i : Nat) := (Option.some.inj ex1).symm
                  subst ex1'
                  obtain ⟨di, hdi, tdi⟩ := t'.get hx2
                  have hil : i < l.length := by omega
                  have hgi : l[i]? = some l[i] := List.getElem?_eq_getElem hil
                  have edi : di = stepD l[i] := by
                    rw [List.getElem?_map, hgi] at hdi
                    exact (Option.some.inj hdi).symm
                  subst edi
                  have eT : Same H (upd H3 T (.tup [.int (i : Nat), x2])) := Same.new (Same.trans e2 e3) nT
                  refine ⟨T, [.int (i : Nat), x2], rfl, SqT.of upd_same, rfl, .int (i : Nat), [x2], rfl, x2, [], rfl, rfl, rfl, yesI ⟨x2, rfl, .ref a, rfl, .int (i : Nat), rfl, i, rfl, a, xs, rfl, SqT.of (eT _ _ h), fun hw => ?_, fun hw p np => ?_⟩⟩
                  · rw [HT.sIx_nat] at hw
                    exact absurd hw.2 (by omega)
                  · have eP : Same H (upd (upd H3 T (.tup [.int (i : Nat), x2])) p (.tup (cutV xs none (some (i : Nat))))) := Same.new eT np
                    refine ⟨st, x2, l[i], p, xs.take i, l.take i, rfl, tdi.mono (.of eP), by rw [upd_same, cut_to], ?_, (wl _ (List.getElem_mem hil)).1, fun q hq => (wl q (List.mem_of_mem_take hq)).1, fun H5 e5 => ?_⟩
                    · rw [List.map_take]
                      exact (t'.take i).mono (.of eP)
                    · have r := hR rfl H5 (Same.trans (same_new nT) (Same.trans (same_new np) e5))
                      simp only [hgi] at r
                      exact r
                · have e1 : kept xs.length (fun _ => true) (fun i => V.bl (match l[i]? with | some p => mayP p (l.take i) | none => true)) = ((List.range l.length).map fun i => match l[i]? with | some p => mayP p (l.take i) | none => true).map V.bl := by
                    rw [kept_all, List.map_map, hll]
                    rfl
                  rw [e1] at hL2
                  refine ⟨D2, _, rfl, SqL.of hL2, ?_⟩
                  rw [all_id_map]
                  exact q' H3 (Same.trans e2 e3)
          · rw [decide_eq_false (show ¬ (xs.length : Int) ≤ 8 by omega)]
            have e : isDealing (.tup ds) = false := by
              rw [isDealing_eq, decide_eq_false (show ¬ ds.length ≤ 8 by omega), Bool.and_false, Bool.false_and]
            rw [e] at q
            exact iteT (q H (Same.refl H))
        · rw [decide_eq_false (show ¬ (1 : Int) ≤ (xs.length : Int) by omega)]
          have e : isDealing (.tup ds) = false := by
            rw [isDealing_eq, decide_eq_false (show ¬ 1 ≤ ds.length by omega), Bool.false_and, Bool.false_and]
          rw [e] at q
          refine iteF ⟨_, rfl, iteT (q H (Same.refl H))⟩
      | _ => exact absurd ht Bool.false_ne_true
end
end As

namespace As
open PySem PySem.Spec PyProof.Rows L2
abbrev sCellAt : Stmt := topS 20
abbrev sDigit : Stmt := topS 21
abbrev sBox : Stmt := topS 22
abbrev sDealing : Stmt := topS 23
theorem scCellAt : FnScope ["_law_script", "_law_k"] ["_law_script", "_law_k"] (defScope sCellAt) := ⟨rfl, rfl, rfl, by decide +kernel, rfl, by decide +kernel, by decide +kernel⟩
theorem scDigit : FnScope ["_law_state", "_law_base", "_law_cell", "_law_found", "_law_number"] ["_law_state", "_law_base"] (defScope sDigit) := ⟨rfl, rfl, rfl, by decide +kernel, rfl, by decide +kernel, by decide +kernel⟩
theorem scBox : FnScope ["_law_state", "_law_few"] ["_law_state", "_law_few"] (defScope sBox) := ⟨rfl, rfl, rfl, by decide +kernel, rfl, by decide +kernel, by decide +kernel⟩
theorem scDealing : FnScope ["_law_state", "_law_few", "_law_most", "_law_steps", "_law_k", "_law_word", "_law_step"] ["_law_state", "_law_few", "_law_most"] (defScope sDealing) := ⟨rfl, rfl, rfl, by decide +kernel, rfl, by decide +kernel, by decide +kernel⟩
section
variable {P : Program} {w : World} {K : PySem.W.Frag} {mg : Str → Option Value} {base : Heap}
/-! ### cell_at -/
def spCellAt (K : PySem.W.Frag) : Sp := fun vs H Q _ => ∃ (a : Addr) (k : Nat) (ns : List Int), vs = [.ref a, .int (k : Int)] ∧ SqL K H a (ns.map V.int) ∧ ∀ i, Q (.int i) H
theorem ok_cell_at {f : Addr} {fd : FuncData} {k : Nat} (F : Fun K "_law_cell_at" "_law_cell_at" sCellAt f fd) (M : Mg mg) : FnOk P w K mg base CX0 (k + 1) f fd ["_law_script", "_law_k"] (spCellAt K) := by
  refine F.ok scCellAt (fun vs H Q E h => ?_) (fun cdv A outer s H vs Q E hr h => ?_)
  · obtain ⟨a, k, ns, rfl, _⟩ := h
    rfl
  · obtain ⟨a, k, ns, rfl, hS, q⟩ := h
    refine ⟨_, pss_cons (ps_if (pt_cmpR op_lt (pv 1) (pe_callB call_len_seq (by rfl) M.len PySem.boot_len (pa_cons (pv 0) pa_nil)) (nomark _)) (pss_one (ps_ret (pe_ix ix_list (pv 0) (pv 1) (fun _ _ => rfl)))) pss_nil)
      (pss_one (ps_ret pe_int)), ?_⟩
    refine ⟨_, rfl, .ref a, rfl, a, _, rfl, .inl hS, _, _, rfl, rfl, _, rfl, ite2 (fun e => ?_) (fun e => ?_)⟩
    · have e' := of_decide_eq_true e
      have hk : k < ns.length := by
        rw [List.length_map] at e'
        omega
      refine ⟨.ref a, rfl, _, rfl, a, _, k, .int ns[k], rfl, rfl, hS, atI_nat ?_, q _⟩
      rw [List.getElem?_map, List.getElem?_eq_getElem hk]
      rfl
    · exact q 0
/-! ### the well -/
def Well (st : Addr) (H : Hp) : Prop := (∃ c, H st = some (.lst [.int c])) ∨ ∃ a b c : Int, H st = some (.lst [.int a, .int b, .int c])
theorem Well.same {st : Addr} {H H' : Hp} (e : Same H H') (h : Well st H) : Well st H' := by
  rcases h with ⟨c, h⟩ | ⟨a, b, c, h⟩
  · exact .inl ⟨c, e _ _ h⟩
  · exact .inr ⟨a, b, c, e _ _ h⟩
theorem Well.ne {st p : Addr} {H : Hp} (h : Well st H) (np : H p = none) : p ≠ st := by
  rcases h with ⟨c, h⟩ | ⟨a, b, c, h⟩
  · exact (ne_of_none h np).symm
  · exact (ne_of_none h np).symm
def spDigit : Sp := fun vs H Q _ => ∃ (st : Addr) (b : Int), vs = [.ref st, .int b] ∧ Well st H ∧ 0 < b ∧ b < 1000000000 ∧ ∀ r H', 0 ≤ r → r < b → Well st H' → ExS st H H' → Q (.int r) H'
theorem ok_digit {f : Addr} {fd : FuncData} {k : Nat} (F : Fun K "_law_digit" "_law_digit" sDigit f fd) (M : Mg mg) : FnOk P w K mg base CX0 (k + 1) f fd ["_law_state", "_law_base"] spDigit := by
  refine F.ok scDigit (fun vs H Q E h => ?_) (fun cdv A outer s H vs Q E hr h => ?_)
  · obtain ⟨st, b, rfl, _⟩ := h
    rfl
  · obtain ⟨st, bs, rfl, hW, hb0, hb1, q⟩ := h
    refine ⟨_, Evl.pss_cut (ps_if (pt_cmpR op_eq (pe_callB call_len_seq (by rfl) M.len PySem.boot_len (pa_cons (pv 0) pa_nil)) pe_int (nomark _))
        (pss_cons (ps_set (i := 2) scDigit.nd rfl (.inl rfl) (pe_ix ix_list (pv 0) pe_int (fun _ _ => rfl)))
        (pss_cons (ps_asg (pe_ix ix_list (pe_lst (pa_cons pe_int (pa_cons (pv 2) pa_nil))) (pe_callTy call_int1 (by rfl) M.int (by decide +kernel) (pa_cons (pe_cmpR op_ge (pv 2) (pe_op op_pow pe_int pe_int) (nomark _)) pa_nil)) (fun _ _ => rfl)) (pg_sub (pv 0) pe_int set_list))
        (pss_one (ps_expr (pe_bm PySem.F.plainAttrs_list PySem.F.slot_list_extend PySem.F.type_list_extend mt_extend (pv 0) (pa_cons (pe_lst (pa_cons (pe_op op_mod (pv 2) pe_int) (pa_cons pe_int pa_nil))) pa_nil)))))) pss_nil)
      (pss_cons (ps_if (pt_cmpR op_gt (pe_ix ix_list (pv 0) pe_int (fun _ _ => rfl)) pe_int (nomark _))
        (pss_cons (ps_set (i := 3) scDigit.nd rfl (.inl rfl) (pe_op op_mod (pe_ix ix_list (pv 0) pe_int (fun _ _ => rfl)) (pv 1)))
        (pss_cons (ps_asg (pe_op op_fdiv (pe_ix ix_list (pv 0) pe_int (fun _ _ => rfl)) (pv 1)) (pg_sub (pv 0) pe_int set_list))
        (pss_one (ps_ret (pv 3))))) pss_nil)
      (pss_cons (ps_asg (pe_add (pe_ix ix_list (pv 0) pe_int (fun _ _ => rfl)) pe_int) (pg_sub (pv 0) pe_int set_list))
      (pss_cons (ps_set (i := 4) scDigit.nd rfl (.inl rfl) (pe_op op_mod (pe_op op_mul (pe_add (pe_add (pe_ix ix_list (pv 0) pe_int (fun _ _ => rfl)) (pe_op op_mul pe_int (pe_ix ix_list (pv 0) pe_int (fun _ _ => rfl)))) pe_int) pe_int) pe_int))
      (pss_cons (ps_set (i := 4) scDigit.nd rfl (.inl rfl) (pe_op op_mod (pe_op op_mul (pv 4) (pe_add (pe_op op_fdiv (pv 4) pe_int) pe_int)) pe_int))
      (pss_one (ps_ret (pe_op op_mod (pe_op op_mod (pe_op op_mul (pv 4) (pe_add (pe_op op_fdiv (pv 4) pe_int) pe_int)) pe_int) (pv 1)))))))), ?_⟩
    refine ⟨fun σ' H' => ∃ y2 a b c, σ' = [some (.ref st), some (.int bs), y2, none, none] ∧ H' st = some (.lst [.int a, .int b, .int c]) ∧ ExS st H H', ?_, fun σ' H1 hM => ?_⟩
    · rcases hW with ⟨c, h⟩ | ⟨a, b, c, h⟩
      · refine ⟨.ref st, rfl, st, _, rfl, .inl (SqL.of h), rfl, _, rfl, ite2 (fun e => ?_) (fun e => absurd (decide_eq_true rfl) e)⟩
        refine ⟨.ref st, rfl, st, _, 0, .int c, rfl, rfl, SqL.of h, rfl, ?_⟩
        refine ⟨.int c, rfl, by show 2 ≤ sizeLine; decide, fun p np => ?_⟩
        have hst : (upd H p (.lst [.int 0, .int c])) st = some (.lst [.int c]) := by
          rw [upd_ne (ne_of_none h np)]
          exact h
        refine ⟨.int c, rfl, 10, 18, rfl, rfl, ⟨by decide, by decide, by decide⟩, c, _, rfl, rfl, .inr ⟨_, rfl, p, [.int 0, .int c], _, (if decide ((10 : Int) ^ (18 : Int).toNat ≤ c) then .int c else .int 0), rfl, rfl, SqL.of upd_same, ?_, .ref st, rfl, st, [.int c], 0, 0, rfl, rfl, hst, rfl, ?_⟩⟩
        · cases decide ((10 : Int) ^ (18 : Int).toNat ≤ c) <;> rfl
        · obtain ⟨z, hz⟩ : ∃ z : Int, (if decide ((10 : Int) ^ (18 : Int).toNat ≤ c) then V.int c else V.int 0) = .int z := by
            cases decide ((10 : Int) ^ (18 : Int).toNat ≤ c)
            · exact ⟨0, rfl⟩
            · exact ⟨c, rfl⟩
          rw [hz]
          refine ⟨.ref st, rfl, .inl ⟨rfl, _, SqL.of upd_same⟩, .int c, rfl, c, 2147483647, rfl, rfl, (show (0 : Int) < 2147483647 by decide), by show 2 ≤ sizeLine; decide, fun p2 np2 => ?_⟩
          have n2 : st ≠ p2 := fun e => by
            rw [e, upd_same] at np2
            cases np2
          refine ⟨st, p2, [.int z], _, rfl, rfl, ?_, upd_same, by show 3 ≤ sizeLine; decide, ?_⟩
          · rw [upd_ne n2, upd_same]
            rfl
          · refine ⟨some (.int c), z, c % 2147483647, 0, rfl, upd_same, ?_⟩
            refine ExS.trans (ExS.new np) (ExS.trans ExS.at_ (ExS.trans (ExS.new np2) ExS.at_))
      · refine ⟨.ref st, rfl, st, _, rfl, .inl (SqL.of h), rfl, _, rfl, ite2 (fun e => ?_) (fun e => ?_)⟩
        · have e' := V.int.inj (of_decide_eq_true e)
          exact absurd e' (show ¬ (((3 : Nat) : Int) = 1) by decide)
        · exact ⟨none, a, b, c, rfl, h, ExS.refl _ _⟩
    · obtain ⟨y2, a, b, c, rfl, h, eS⟩ := hM
      refine ⟨.ref st, rfl, st, _, 0, .int a, rfl, rfl, SqL.of h, rfl, a, 0, rfl, rfl, _, rfl, ite2 (fun e => ?_) (fun e => ?_)⟩
      · have ha : 0 < a := of_decide_eq_true e
        refine ⟨.ref st, rfl, st, _, 0, .int a, rfl, rfl, SqL.of h, rfl, .int bs, rfl, a, bs, rfl, rfl, hb0, ?_⟩
        refine ⟨.ref st, rfl, st, _, 0, .int a, rfl, rfl, SqL.of h, rfl, .int bs, rfl, a, bs, rfl, rfl, ⟨hb0, by omega⟩, .ref st, rfl, st, _, 0, 0, rfl, rfl, h, rfl, ?_⟩
        refine ⟨.int (a % bs), rfl, q _ _ (Int.emod_nonneg _ (by omega)) (Int.emod_lt_of_pos _ hb0) (.inr ⟨a / bs, b, c, upd_same⟩) (eS.trans ExS.at_)⟩
      · refine ⟨.ref st, rfl, st, _, 2, .int c, rfl, rfl, SqL.of h, rfl, c, 1, rfl, rfl, .ref st, rfl, st, _, 2, 2, rfl, rfl, h, rfl, ?_⟩
        have h2 : (upd H1 st (.lst ([.int a, .int b, .int c].set 2 (.int (c + 1))))) st = some (.lst [.int a, .int b, .int (c + 1)]) := upd_same
        refine ⟨.ref st, rfl, st, _, 1, .int b, rfl, rfl, SqL.of h2, rfl, .ref st, rfl, st, _, 2, .int (c + 1), rfl, rfl, SqL.of h2, rfl, 7919, c + 1, rfl, rfl, .inl ⟨by decide, by decide⟩, b, 7919 * (c + 1), rfl, rfl, _, 1, rfl, rfl, _, 48271, rfl, rfl, .inr ⟨by decide, by decide⟩, _, 2147483647, rfl, rfl, (show (0 : Int) < 2147483647 by decide), ?_⟩
        obtain ⟨n, hn⟩ : ∃ n : Int, (b + 7919 * (c + 1) + 1) * 48271 % 2147483647 = n := ⟨_, rfl⟩
        have n0 : 0 ≤ n := by rw [← hn]; exact Int.emod_nonneg _ (by decide)
        have n1 : n < 2147483647 := by rw [← hn]; exact Int.emod_lt_of_pos _ (by decide)
        refine ⟨.int n, by rw [← hn]; rfl, .int n, by rw [← hn]; rfl, n, 1009, rfl, rfl, ⟨by decide, by decide⟩, _, 69621, rfl, rfl, n, _, rfl, rfl, .inl ⟨by omega, by omega⟩, _, 2147483647, rfl, rfl, (show (0 : Int) < 2147483647 by decide), ?_⟩
        obtain ⟨m, hm⟩ : ∃ m : Int, n * (n / 1009 + 69621) % 2147483647 = m := ⟨_, rfl⟩
        have m0 : 0 ≤ m := by rw [← hm]; exact Int.emod_nonneg _ (by decide)
        have m1 : m < 2147483647 := by rw [← hm]; exact Int.emod_lt_of_pos _ (by decide)
        refine ⟨.int m, by rw [← hm]; rfl, .int m, by rw [← hm]; rfl, m, 2003, rfl, rfl, ⟨by decide, by decide⟩, _, 40692, rfl, rfl, m, _, rfl, rfl, .inl ⟨by omega, by omega⟩, _, 2147483399, rfl, rfl, (show (0 : Int) < 2147483399 by decide), .int bs, rfl, _, bs, rfl, rfl, hb0, ?_⟩
        exact q _ _ (Int.emod_nonneg _ (by omega)) (Int.emod_lt_of_pos _ hb0) (.inr ⟨a, b, c + 1, upd_same⟩) (eS.trans ExS.at_)
/-! ### box -/
def spBox : Sp := fun vs H Q _ => ∃ (st : Addr) (b : Int), vs = [.ref st, .int b] ∧ Well st H ∧ 0 < b ∧ b ≤ 100000001 ∧ ∀ r H', boxB r = true → Well st H' → ExS st H H' → Q (.int r) H'
theorem ok_box {f f1 : Addr} {fd fd1 : FuncData} {k : Nat} (F : Fun K "_law_box" "_law_box" sBox f fd) (M : Mg mg) (G1 : FnOk P w K mg base CX0 k f1 fd1 ["_law_state", "_law_base"] spDigit) (g1 : mg "_law_digit" = some (.ref f1)) (k1 : PySem.W.keepIn K (.ref f1) = true) (b1 : Binds K fd1 ["_law_state", "_law_base"] []) :
    FnOk P w K mg base CX0 (k + 1) f fd ["_law_state", "_law_few"] spBox := by
  refine F.ok scBox (fun vs H Q E h => ?_) (fun cdv A outer s H vs Q E hr h => ?_)
  · obtain ⟨st, b, rfl, _⟩ := h
    rfl
  · obtain ⟨st, b, rfl, hW, hb0, hb1, q⟩ := h
    refine ⟨_, pss_cons (ps_if (pt_cmpR op_eq (pe_call G1 hr (by rfl) g1 k1 b1 .nil pass0 (pa_cons (pv 0) (pa_cons pe_int pa_nil))) pe_int (nomark _))
        (pss_one (ps_ret (pe_call G1 hr (by rfl) g1 k1 b1 .nil pass0 (pa_cons (pv 0) (pa_cons (pe_add (pe_op op_pow pe_int pe_int) pe_int) pa_nil))))) pss_nil)
      (pss_one (ps_ret (pe_call G1 hr (by rfl) g1 k1 b1 .nil pass0 (pa_cons (pv 0) (pa_cons (pv 1) pa_nil))))), ?_⟩
    refine ⟨.ref st, rfl, st, 12, rfl, hW, by decide, by decide, fun r H1 h0 h1 W1 e1 => ⟨rfl, _, rfl, ite2 (fun e => ?_) (fun e => ?_)⟩⟩
    · refine ⟨.ref st, rfl, 10, 8, rfl, rfl, ⟨by decide, by decide, by decide⟩, _, 1, rfl, rfl, st, 100000001, rfl, W1, by decide, by decide, fun r2 H2 h2 h3 W2 e2 => q r2 H2 ?_ W2 (e1.trans e2)⟩
      unfold boxB
      rw [decide_eq_true h2, decide_eq_true (show r2 ≤ 100000000 by omega)]
      rfl
    · refine ⟨.ref st, rfl, .int b, rfl, st, b, rfl, W1, hb0, by omega, fun r2 H2 h2 h3 W2 e2 => q r2 H2 ?_ W2 (e1.trans e2)⟩
      unfold boxB
      rw [decide_eq_true h2, decide_eq_true (show r2 ≤ 100000000 by omega)]
      rfl
/-! ### dealing -/
def StepsOk (l : List Pr) : Prop := ∀ p ∈ l, wordB p.1 = true ∧ boxB p.2 = true
def spDealing : Sp := fun vs H Q _ => ∃ (st : Addr) (b m : Int), vs = [.ref st, .int b, .int m] ∧ Well st H ∧ 0 < b ∧ b ≤ 100000001 ∧ 0 < m ∧ m ≤ 8 ∧
  ∀ v l H', TD st H' v (.tup (l.map stepD)) → 1 ≤ l.length → l.length ≤ 8 → StepsOk l → follow mayP l = true → Well st H' → ExS st H H' → Q v H'
theorem word_at {r : Int} (h0 : 0 ≤ r) (h1 : r < 2) : ∃ z, wordB z = true ∧ atI [V.str wR, V.str wW] r = some (.str z) := by
  have h : r = 0 ∨ r = 1 := by omega
  rcases h with rfl | rfl
  · exact ⟨wR, by decide +kernel, rfl⟩
  · exact ⟨wW, by decide +kernel, rfl⟩
theorem ok_dealing {f f1 f2 : Addr} {fd fd1 fd2 : FuncData} {k : Nat} (F : Fun K "_law_dealing" "_law_dealing" sDealing f fd) (M : Mg mg) (G1 : FnOk P w K mg base CX0 k f1 fd1 ["_law_state", "_law_base"] spDigit) (g1 : mg "_law_digit" = some (.ref f1)) (k1 : PySem.W.keepIn K (.ref f1) = true) (b1 : Binds K fd1 ["_law_state", "_law_base"] [])
    (G2 : FnOk P w K mg base CX0 k f2 fd2 ["_law_state", "_law_few"] spBox) (g2 : mg "_law_box" = some (.ref f2)) (k2 : PySem.W.keepIn K (.ref f2) = true) (b2 : Binds K fd2 ["_law_state", "_law_few"] []) :
    FnOk P w K mg base CX0 (k + 1) f fd ["_law_state", "_law_few", "_law_most"] spDealing := by
  refine F.ok scDealing (fun vs H Q E h => ?_) (fun cdv A outer s H vs Q E hr h => ?_)
  · obtain ⟨st, b, m, rfl, _⟩ := h
    rfl
  · obtain ⟨st, b, m, rfl, hW, hb0, hb1, hm0, hm1, q⟩ := h
    refine ⟨_, pss_cons (ps_set (i := 3) scDealing.nd rfl (.inl rfl) (pe_lst pa_nil))
      (pss_cons (ps_for PassesOwn.never rfl (pi_range1 (by rfl) M.range (pa_cons (pe_add pe_int (pe_call G1 hr (by rfl) g1 k1 b1 .nil pass0 (pa_cons (pv 0) (pa_cons (pv 2) pa_nil)))) pa_nil)) (pg_name (i := 4) scDealing.nd rfl (.inl rfl))
        (pss_cons (ps_set (i := 5) scDealing.nd rfl (.inl rfl) (pe_ix ix_list (pe_lst (pa_cons pe_str (pa_cons pe_str pa_nil))) (pe_call G1 hr (by rfl) g1 k1 b1 .nil pass0 (pa_cons (pv 0) (pa_cons pe_int pa_nil))) (fun _ _ => rfl)))
        (pss_cons (ps_set (i := 6) scDealing.nd rfl (.inl rfl) (pe_tup (pa_cons (pv 5) (pa_cons (pe_call G2 hr (by rfl) g2 k2 b2 .nil pass0 (pa_cons (pv 0) (pa_cons (pv 1) pa_nil))) pa_nil))))
        (pss_one (ps_if (PW.pt (pw_and (pt_cmpR (op_notInD (hu65 hr)) (pv 6) (pv 3) (by rfl)) (pw_and1 (pt_cmpR (op_notInD (hu65 hr)) (pe_tup (pa_cons pe_str (pa_cons (pe_ix ix_tup (pv 6) pe_int (fun _ _ => rfl)) pa_nil))) (pv 3) (by rfl)))))
          (pss_one (ps_expr (pe_bm PySem.F.plainAttrs_list PySem.F.slot_list_append PySem.F.type_list_append mt_append (pv 3) (pa_cons (pv 6) pa_nil)))) pss_nil)))))
      (pss_one (ps_ret (pe_callTy call_tuple_of (by rfl) M.tuple (by decide +kernel) (pa_cons (pv 3) pa_nil))))), ?_⟩
    refine ⟨Nat.zero_le _, fun o no => ?_⟩
    have nos : o ≠ st := hW.ne no
    refine ⟨.ref st, rfl, .int m, rfl, st, m, rfl, hW.same (same_new no), hm0, by omega, fun r H1 h0 h1 W1 e1 => ⟨1, r, rfl, rfl, 1 + r, rfl, by omega, by omega, ?_⟩⟩
    have ho1 : H1 o = some (.lst []) := e1 _ _ nos upd_same
    have eH1 : ExS st H H1 := (ExS.new no).trans e1
    refine for_range (lo := 0) (n := (1 + r).toNat) (fun i σ H' => ∃ y4 y5 y6 xs l, σ = [some (.ref st), some (.int b), some (.int m), some (.ref o), y4, y5, y6] ∧ H' o = some (.lst xs) ∧ TDs st H' xs (l.map stepD) ∧ l.length ≤ i ∧ (1 ≤ i → 1 ≤ l.length) ∧ StepsOk l ∧ follow mayP l = true ∧ Well st H' ∧ ExS st H H')
      ⟨none, none, none, [], [], rfl, ho1, .nil, Nat.le_refl _, fun z => absurd z (by decide), (fun p hp => absurd hp List.not_mem_nil), rfl, W1, eH1⟩ (fun i σ H2 hi hP => ?_) (fun σ H2 hP => ?_)
    · obtain ⟨y4, y5, y6, xs, l, rfl, ho, t, hl, hne, hok, hfo, W2, e2⟩ := hP
      -- word
      refine ⟨by show 2 ≤ sizeLine; decide, fun p np => ?_⟩
      refine ⟨.ref st, rfl, st, 2, rfl, W2.same (same_new np), by decide, by decide, fun r3 H3 h30 h31 W3 e3 => ?_⟩
      obtain ⟨z, wz, az⟩ := word_at h30 h31
      have np_st : p ≠ st := W2.ne np
      refine ⟨p, [.str wR, .str wW], r3, .str z, rfl, rfl, SqL.of (e3 _ _ np_st upd_same), az, ?_⟩
      have e23 : ExS st H2 H3 := (ExS.new np).trans e3
      -- step
      refine ⟨.str z, rfl, .ref st, rfl, .int b, rfl, st, b, rfl, W3, hb0, hb1, fun r4 H4 hb4 W4 e4 => ⟨by show 2 ≤ sizeLine; decide, fun p2 np2 => ?_⟩⟩
      have e24 : ExS st H2 H4 := e23.trans e4
      have np2_st : p2 ≠ st := W4.ne np2
      have e25 : ExS st H2 (upd H4 p2 (.tup [.str z, .int r4])) := e24.trans (ExS.new np2)
      have W5 : Well st (upd H4 p2 (.tup [.str z, .int r4])) := W4.same (same_new np2)
      have ho5 := e25 _ _ nos ho
      have t5 := t.mono e25
      have tp : TD st (upd H4 p2 (.tup [.str z, .int r4])) (.ref p2) (stepD (z, r4)) := .tup np2_st upd_same (.cons (.str _) (.cons (.int _) .nil))
      have wl : ∀ q ∈ l, wordB q.1 = true := fun q hq => (hok q hq).1
      refine ⟨.ref p2, rfl, .ref o, rfl, stepP (z, r4), l.map stepP, tp.stepDp, .lst (SqL.of ho5) t5.stepsDp, stepP_shaped wz, stepPs_shapedL wl, _, rfl, ?_⟩
      rw [any_step]
      cases h1m : decide ((z, r4) ∈ l) with
      | true =>
        refine iteF (iteF ?_)
        refine ⟨_, _, _, xs, l, rfl, ho5, t5, by omega, fun _ => ?_, hok, hfo, W5, e2.trans e25⟩
        exact List.length_pos_of_mem (of_decide_eq_true h1m)
      | false =>
        refine iteT ⟨.ref p2, rfl, p2, [.str z, .int r4], 1, .int r4, rfl, rfl, SqT.of upd_same, rfl, by show 2 ≤ sizeLine; decide, fun c nc => ?_⟩
        have e26 : ExS st H2 (upd (upd H4 p2 (.tup [.str z, .int r4])) c (.tup [.str wW, .int r4])) := e25.trans (ExS.new nc)
        have W6 := W5.same (same_new (o := .tup [.str wW, .int r4]) nc)
        have ho6 := e26 _ _ nos ho
        have t6 := t.mono e26
        refine ⟨.ref o, rfl, stepP (wW, r4), l.map stepP, .tup (SqT.of upd_same) (.cons (.str _) (.cons (.int _) .nil)), .lst (SqL.of ho6) t6.stepsDp, stepP_shaped (show wordB wW = true by decide +kernel), stepPs_shapedL wl, _, rfl, ?_⟩
        rw [any_step]
        cases h2m : decide ((wW, r4) ∈ l) with
        | true =>
          refine iteF ?_
          exact ⟨_, _, _, xs, l, rfl, ho6, t6, by omega, fun _ => List.length_pos_of_mem (of_decide_eq_true h2m), hok, hfo, W6, e2.trans e26⟩
        | false =>
          have hz : xs.length = l.length := by rw [t.length, List.length_map]
          refine iteT ⟨.ref o, rfl, .inl ⟨rfl, _, SqL.of ho6⟩, .ref p2, rfl, o, xs, .ref p2, rfl, rfl, ho6, sl_lt (by omega), ?_⟩
          refine ⟨_, _, _, xs ++ [.ref p2], l ++ [(z, r4)], rfl, upd_same, ?_, by rw [List.length_append]; show l.length + 1 ≤ i + 1; omega, fun _ => by rw [List.length_append]; show 1 ≤ l.length + 1; omega, ?_, follow_snoc hfo (by unfold mayP; rw [h1m, h2m]; rfl), ?_, ?_⟩
          · refine (t6.append (.cons (tp.mono (ExS.new nc)) .nil) |> fun h => ?_)
            have h' : TDs st (upd (upd H4 p2 (.tup [.str z, .int r4])) c (.tup [.str wW, .int r4])) (xs ++ [.ref p2]) ((l ++ [(z, r4)]).map stepD) := by
              rw [List.map_append]
              exact h
            refine h'.stepsT fun a ys na ha => ?_
            rw [upd_ne]
            · exact ha
            · intro e
              rw [e, ho6] at ha
              cases ha
          · intro q hq
            rcases List.mem_append.mp hq with h | h
            · exact hok q h
            · rw [List.mem_singleton.mp h]
              exact ⟨wz, hb4⟩
          · rcases W6 with ⟨c1, h⟩ | ⟨a1, b1, c1, h⟩
            · exact .inl ⟨c1, by rw [upd_ne (Ne.symm nos)]; exact h⟩
            · exact .inr ⟨a1, b1, c1, by rw [upd_ne (Ne.symm nos)]; exact h⟩
          · intro a u na ha
            rw [upd_ne (ne_of_none ha no)]
            exact (e2.trans e26) a u na ha
    · obtain ⟨y4, y5, y6, xs, l, rfl, ho, t, hl, hne, hok, hfo, W2, e2⟩ := hP
      refine ⟨.ref o, rfl, o, xs, rfl, .inl ⟨SqL.of ho, fun p np => q (.ref p) l _ (.tup (W2.ne np) upd_same (t.mono (ExS.new np))) (hne (by omega)) (by omega) hok hfo (W2.same (same_new np)) (e2.trans (ExS.new np))⟩⟩
end
end As

namespace As
open PySem PySem.Spec PyProof.Rows L2
/-! ### a list beside the empty one -/
def rEqNil (K : PySem.W.Frag) : R2 := fun x y H Q => ∃ a b xs, x = .ref a ∧ y = .ref b ∧ SqL K H a xs ∧ SqL K H b [] ∧ Q (.bl xs.isEmpty) H
theorem op_eqNil {X : Cx} (hu : X.A.units < cLine) : OpR X (compareOp .Eq) (rEqNil X.K) := by
  intro pins s σ H x y v u Q I rx ry h
  obtain ⟨a, b, xs, rfl, rfl, ha, hb, q⟩ := h
  cases rx
  cases ry
  obtain ⟨its, rv, p1, _⟩ := I.list ha
  obtain ⟨its2, rv2, p2, _⟩ := I.list hb
  cases rv2
  cases xs with
  | nil =>
    cases rv
    exact SeqAt.eq_listAt p1.isList p2.isList rfl hu (e := fun _ => true) (fun j h1 _ => absurd h1 (Nat.not_lt_zero _)) ⟨.bl true, H, I, rfl, q⟩
  | cons x xs =>
    cases rv with
    | cons r1 r2 => exact SeqAt.eq_list_lengthsAt p1.isList p2.isList (by simp) hu ⟨.bl false, H, I, rfl, q⟩
/-! ### data picked, cut, put together -/
theorem TDs.pick {st : Addr} {H : Hp} {xs : List V} {ds : List D} {r : Int} (t : TDs st H xs ds) (h0 : 0 ≤ r) (h1 : r < xs.length) : ∃ v d, atI xs r = some v ∧ TD st H v d := by
  obtain ⟨j, rfl⟩ : ∃ j : Nat, r = (j : Int) := ⟨r.toNat, by omega⟩
  have hj : j < xs.length := by omega
  have hx : xs[j]? = some xs[j] := List.getElem?_eq_getElem hj
  obtain ⟨d, _, td⟩ := t.get hx
  exact ⟨xs[j], d, atI_nat hx, td⟩
theorem cat_ok {K : PySem.W.Frag} {st a b : Addr} {H : Hp} {ds es : List D} {Q : VK} (W : Well st H) (ta : TD st H (.ref a) (.tup ds)) (tb : TD st H (.ref b) (.tup es)) (hl : ds.length + es.length ≤ 1000)
    (q : ∀ c H', TD st H' (.ref c) (.tup (ds ++ es)) → Same H H' → Q (.ref c) H') : rCatA K (.ref a) (.ref b) H Q := by
  cases ta with
  | @tup a xs _ na ha t1 =>
    cases tb with
    | @tup b ys _ nb hb t2 =>
      have l1 := t1.length
      have l2 := t2.length
      refine ⟨a, b, xs, ys, rfl, rfl, SqT.of ha, SqT.of hb, sl_of (by omega), fun e => ?_, fun _ e => ?_, fun _ _ p np => ?_⟩
      · subst e
        cases t1
        exact q b H (.tup nb hb t2) (Same.refl H)
      · subst e
        cases t2
        refine q a H ?_ (Same.refl H)
        rw [List.append_nil]
        exact .tup na ha t1
      · exact q p _ (.tup (W.ne np) upd_same ((t1.append t2).mono (ExS.new np))) (same_new np)
theorem sl_ok {K : PySem.W.Frag} {st a : Addr} {H : Hp} {ds : List D} {lo hi : Option Int} {Q : VK} (W : Well st H) (ta : TD st H (.ref a) (.tup ds))
    (q : ∀ c H' es, TD st H' (.ref c) (.tup es) → es.length ≤ ds.length → Same H H' → Q (.ref c) H') : rSlA K (.ref a) lo hi H Q := by
  cases ta with
  | @tup a xs _ na ha t1 =>
    have l1 := t1.length
    refine ⟨a, xs, rfl, SqT.of ha, fun _ => q a H ds (.tup na ha t1) (Nat.le_refl _) (Same.refl H), fun _ p np => ?_⟩
    have t2 := (t1.drop (HT.sIx xs.length 0 lo)).take (HT.sIx xs.length xs.length hi - HT.sIx xs.length 0 lo)
    refine q p _ _ (.tup (W.ne np) upd_same (t2.mono (ExS.new np))) ?_ (same_new np)
    rw [List.length_take, List.length_drop]
    omega
theorem slL_ok {K : PySem.W.Frag} {st a : Addr} {H : Hp} {ds : List D} {lo hi : Option Int} {Q : VK} (W : Well st H) (ta : TD st H (.ref a) (.lst ds))
    (q : ∀ c H' es, TD st H' (.ref c) (.lst es) → es.length ≤ ds.length → Same H H' → Q (.ref c) H') : rSlL K (.ref a) lo hi H Q := by
  cases ta with
  | @lst a xs _ na ha t1 =>
    have l1 := t1.length
    refine ⟨a, xs, rfl, SqL.of ha, fun p np => ?_⟩
    have t2 := (t1.drop (HT.sIx xs.length 0 lo)).take (HT.sIx xs.length xs.length hi - HT.sIx xs.length 0 lo)
    refine q p _ _ (.lst (W.ne np) upd_same (t2.mono (ExS.new np))) ?_ (same_new np)
    rw [List.length_take, List.length_drop]
    omega
theorem catL_ok {st a b : Addr} {H : Hp} {ds es : List D} {Q : VK} (W : Well st H) (ta : TD st H (.ref a) (.lst ds)) (tb : TD st H (.ref b) (.lst es)) (hl : ds.length + es.length ≤ 1000)
    (q : ∀ c H', TD st H' (.ref c) (.lst (ds ++ es)) → Same H H' → Q (.ref c) H') : rCat (.ref a) (.ref b) H Q := by
  cases ta with
  | @lst a xs _ na ha t1 =>
    cases tb with
    | @lst b ys _ nb hb t2 =>
      have l1 := t1.length
      have l2 := t2.length
      exact ⟨a, b, xs, ys, rfl, rfl, ha, hb, sl_of (by omega), fun p np => q p _ (.lst (W.ne np) upd_same ((t1.append t2).mono (ExS.new np))) (same_new np)⟩
/-! ### lists of steps -/
theorem prs_one {ds : List D} {l : List Pr} {d : D} {p : Pr} : prs ds = some l → asPr d = some p → prs (ds ++ [d]) = some (l ++ [p]) := by
  intro h1 h2
  obtain ⟨e1, w1⟩ := prs_some h1
  obtain ⟨e2, w2⟩ := asPr_some h2
  have e : ds ++ [d] = (l ++ [p]).map stepD := by
    rw [e1, e2, List.map_append]
    rfl
  rw [e]
  refine prs_of fun q hq => ?_
  rcases List.mem_append.mp hq with h | h
  · exact w1 q h
  · rw [List.mem_singleton.mp h]
    exact w2
theorem prs_take {ds : List D} {l : List Pr} (h : prs ds = some l) (i : Nat) : prs (ds.take i) = some (l.take i) := by
  obtain ⟨e1, w1⟩ := prs_some h
  rw [e1, ← List.map_take]
  exact prs_of fun q hq => w1 q (List.mem_of_mem_take hq)
theorem follow_all {m : Pr → List Pr → Bool} {l : List Pr} (h : ∀ i p, l[i]? = some p → m p (l.take i) = true) : follow m l = true := by
  unfold follow
  rw [List.all_eq_true]
  intro i _
  split
  · rename_i p hp
    exact h i p hp
  · rfl
theorem follow_not {m : Pr → List Pr → Bool} {l : List Pr} {i : Nat} {p : Pr} (hp : l[i]? = some p) (h : m p (l.take i) = false) : follow m l = false := by
  cases hf : follow m l with
  | false => rfl
  | true =>
    unfold follow at hf
    rw [List.all_eq_true] at hf
    have := hf i (List.mem_range.mpr (List.getElem?_eq_some_iff.mp hp).1)
    rw [hp] at this
    have this' : m p (l.take i) = true := this
    rw [h] at this'
    exact absurd this' Bool.false_ne_true
theorem isDealing_noStep {ds : List D} {d : D} {i : Nat} (hd : ds[i]? = some d) (h : isStep d = false) : isDealing (.tup ds) = false := by
  have hn : prs ds = none := by
    cases hp : prs ds with
    | none => rfl
    | some l =>
      have h1 := prs_isSome ds
      rw [hp] at h1
      have h2 : ds.all isStep = true := h1.symm
      rw [List.all_eq_true] at h2
      have := h2 d (List.mem_of_getElem? hd)
      rw [h] at this
      exact absurd this Bool.false_ne_true
  rw [isDealing_eq, hn, Bool.and_false]
theorem isDealing_noFollow {ds : List D} {d : D} {l : List Pr} {p : Pr} {i : Nat} (hd : ds[i]? = some d) (hp : asPr d = some p) (hl : prs (ds.take i) = some l) (h : mayP p l = false) : isDealing (.tup ds) = false := by
  rw [isDealing_eq]
  cases hq : prs ds with
  | none => rw [Bool.and_false]
  | some m =>
    have e1 : l = m.take i := Option.some.inj (hl.symm.trans (prs_take hq i))
    obtain ⟨e2, w2⟩ := prs_some hq
    have e3 : m[i]? = some p := by
      rw [e2, List.getElem?_map] at hd
      cases hm : m[i]? with
      | none => rw [hm] at hd; cases hd
      | some q =>
        rw [hm] at hd
        have e4 : stepD q = d := Option.some.inj hd
        have wq := w2 q (List.mem_of_getElem? hm)
        rw [← e4, asPr_step wq.1 wq.2] at hp
        exact hp
    rw [e1] at h
    show (_ && follow mayP m) = false
    rw [follow_not e3 h, Bool.and_false]
end As

/-! set(xs) of a list of ints -/
namespace As
open PySem PySem.Spec PyProof.Rows L2
section
variable {P : Program} {w : World} {A : Around} {E : Value → Shared → Prop} {s : Shared}
/-- a new set, empty -/
abbrev bareSet (w : World) : Obj := { cls := .type "set", dict := none, data := .set #[] 0 (.fresh 0 0 (!w.params.followText "set-order")) }
theorem set_of_list {l : Addr} {items : Array Value} (ns : List Int) {Q : Value → Shared → Prop} (noHandled : A.handled = none) (isL : s.heap.IsList l items) (isInts : IntsAre items.toList ns) (few : ns.length + 1 < scanBound)
    (goal : ∀ (h2 : Heap) (tk c : Nat), SetR w h2 s.heap.objs.size (fun j => decide (j ∈ ns)) c → c ≤ ns.length → (∀ b o, s.heap.get? b = some o → h2.get? b = some o) → Q (.ref s.heap.objs.size) { s with heap := h2, toks := tk }) :
    wpAny (model P w) A (call (.type "set") [.ref l]) Q E s := by
  have sizes : items.size = ns.length := by
    have z := IntsAre.length isInts
    rwa [Array.length_toList] at z
  obtain ⟨_, _, mroSet⟩ := F.called_set.mro
  have madeSet := F.called_set.made
  have subSet := F.called_set.sub
  refine wpAny_call (codeAny_of_tree ?_)
  show wpAny _ _ (callAny (.type "set") _) _ _ _
  refine wpAny_pure ⟨Code.quiet_builtin _ (by decide +kernel), codeAny_builtin F.entry_type_call ?_⟩
  rw [Around.under_plain (weight_type_call_type "set" [.ref l] []) rfl]
  have notT := F.called_set.notType
  have canC := F.called_set.canCreate
  have tc := F.typeCall_set_1 (.ref l)
  repeat (any_goals (first | assumption | wp_step))
  refine codeAny_mono (code_set_led1 (.ref l) (E := E) (Q₁ := fun ob sx => ob = .ref s.heap.objs.size ∧ sx = { s with heap := s.heap.push (bareSet w) }) ⟨rfl, rfl⟩) fun r sx hr => ?_
  cases r with
  | error e => exact hr
  | ok fl =>
    cases fl with
    | ret ob =>
      obtain ⟨rfl, rfl⟩ := hr
      have atS : (s.heap.push (bareSet w)).get? s.heap.objs.size = some (bareSet w) := Heap.get?_push_size _ rfl
      have tyS : Shared.TypeIs { s with heap := s.heap.push (bareSet w) } (.ref s.heap.objs.size) "set" := ⟨_, atS, rfl⟩
      have initL := F.called_set.init.lookup
      have initB := F.called_set.init.bind (.ref s.heap.objs.size)
      repeat (any_goals (first | assumption | wp_step))
      refine codeAny_mono (codeAny_call_builtin (R := wants (fun r sy => r = .none ∧ ∃ h2 tk c, sy = { s with heap := h2, toks := tk } ∧ SetR w h2 s.heap.objs.size (fun j => decide (j ∈ ns)) c ∧ c ≤ ns.length ∧
          (∀ b o, s.heap.get? b = some o → h2.get? b = some o)) E) F.called_set.init.plain F.entry_set_init (check_set_init_1 tyS ?_)) fun r2 sy hr2 => ?_
      · obtain ⟨⟨ocl, odi, oda, osl⟩, atL, clL, nL, daL⟩ := isL
        simp only at clL daL
        subst clL; subst daL
        have atL2 : (s.heap.push (bareSet w)).get? l = some { cls := .type "list", dict := odi, data := .seq items nL, slots := osl } := Heap.get?_push_of_some _ atL
        have ss := F.sub_list_set
        have sf := F.sub_list_frozenset
        have nd : (Value.type "list" == Value.type "dict") = false := by decide
        have isL2 : (s.heap.push (bareSet w)).IsList l items := ⟨_, atL2, rfl, nL, rfl⟩
        unfold Builtin.«set.__init__» noKeywords Builtin.Frozenset.updateFrom
        generalize eqPI : pyIter = PI
        wp_walk
        subst eqPI
        refine wpAny_pyIter_list isL2 ?_
        refine wpAny_bind (wpAny_runValue ?_)
        have lt1 : l < s.heap.objs.size := Heap.lt_size atL
        have nh3 : A.in1.in1.in1.handled = none := by simp [noHandled]
        have ne1 : l ≠ (s.heap.push (bareSet w)).objs.size := by
          rw [Heap.size_push]
          exact Nat.ne_of_lt (Nat.lt_succ_of_lt lt1)
        have apart : s.heap.objs.size ∉ [(s.heap.push (bareSet w)).objs.size, l] := by
          rw [Heap.size_push]
          simp only [List.mem_cons, List.mem_singleton, List.not_mem_nil, or_false, not_or]
          exact ⟨Nat.ne_of_lt (Nat.lt_succ_self _), Nat.ne_of_gt lt1⟩
        have worth : ∀ (i : Nat) (v : Value), items[i]? = some v → ∃ k t, ns[i]? = some k ∧ v = .int k t := fun i v hv => by
          have hi : i < ns.length := by
            rw [← sizes]
            exact (Array.getElem?_eq_some_iff.mp hv).1
          obtain ⟨t, e⟩ := PyProof.Rows.IntsAre.int_at isInts i v (by rw [Array.getElem?_toList]; exact hv)
          refine ⟨ns[i], t, List.getElem?_eq_getElem hi, ?_⟩
          rw [e, List.getD_eq_getElem?_getD, List.getElem?_eq_getElem hi] <;> rfl
        refine set_update_ints ((Walks.list nh3 _ l ne1 items).toS) s.heap.objs.size apart ns sizes few worth (items.size - 0) 0 _ (by omega) (Nat.zero_le _)
          ⟨⟨_, Heap.get?_push_size _ rfl, rfl, rfl⟩, isL2.push _⟩ ⟨0, Nat.le_refl 0, setR_new_at (Heap.get?_push_of_some _ atS)⟩ ?_
        rintro ⟨h2, g2, d2, tk2, os2⟩ c2 mv le2 isSet
        have eg : g2 = s.gens := mv.gens
        have ed : d2 = s.drawn := mv.drawn
        have eo : os2 = s.os := mv.os
        subst eg; subst ed; subst eo
        refine wpAny_pure ?_
        show wpAny _ _ (ret Value.none) _ _ _
        rw [sizes] at le2
        refine wpAny_pure ⟨rfl, h2, tk2, c2, rfl, isSet, le2, fun b o e => ?_⟩
        have lb : b < s.heap.objs.size := Heap.lt_size e
        refine mv.heap b o ?_ (Heap.get?_push_of_some _ (Heap.get?_push_of_some _ e))
        simp only [List.mem_cons, List.mem_singleton, List.not_mem_nil, or_false, not_or]
        refine ⟨Nat.ne_of_lt lb, ?_⟩
        rw [Heap.size_push]
        exact Nat.ne_of_lt (Nat.lt_succ_of_lt lb)
      · cases r2 with
        | error e => exact hr2
        | ok fl2 =>
          cases fl2 with
          | ret r =>
            obtain ⟨rfl, h2, tk, c2, rfl, isSet, le2, kp⟩ := hr2
            repeat (any_goals (first | assumption | wp_step))
            exact goal _ _ _ isSet le2 kp
          | _ => exact hr2.elim
    | _ => exact hr.elim
end
/-- set(xs) -/
def rSetL (K : PySem.W.Frag) (w : World) : List V → Hp → VK → Prop := fun xs H Q => ∃ (l : Addr) (ns : List Int), xs = [.ref l] ∧ SqL K H l (ns.map V.int) ∧ ns.length < 1000 ∧
  ∀ p c, H p = none → c ≤ ns.length → Q (.ref p) (upd H p (SetO w p (fun j => decide (j ∈ ns)) c))
theorem cr_setL {X : Cx} (hc : X.calm = true) : CallR X (.type "set") (rSetL X.K X.w) := by
  intro pins s σ H xs us Q I r h
  obtain ⟨l, ns, rfl, hS, hn, q⟩ := h
  rw [Vals.ref1 r]
  obtain ⟨its, rv, p1, _⟩ := I.list hS
  refine set_of_list (items := its.toArray) ns (I.ok.hd hc) p1.isList (by simpa using intsAre_of rv) (Nat.lt_of_le_of_lt (show ns.length + 1 ≤ 1000 by omega) (by decide)) fun h2 tk c isSet le kp => ?_
  exact ⟨.ref _, upd H s.heap.objs.size (SetO X.w s.heap.objs.size (fun j => decide (j ∈ ns)) c), I.laid (t' := tk) kp (Nat.le_refl _) (setO_new isSet), rfl, q _ c (I.hok.fresh (Nat.le_refl _)) le⟩
end As

namespace As
open PySem PySem.Spec PyProof.Rows L2
abbrev sCheck : Stmt := topS 14
abbrev sBoxesOf : Stmt := topS 15
abbrev sReads : Stmt := topS 16
abbrev sWrites : Stmt := topS 17
abbrev sClashes : Stmt := topS 18
theorem scCheck : FnScope ["thing"] ["thing"] (defScope sCheck) := ⟨rfl, rfl, rfl, by decide +kernel, rfl, by decide +kernel, by decide +kernel⟩
theorem scBoxesOf : FnScope ["dealing", "asked", "box", "word"] ["dealing", "asked"] (defScope sBoxesOf) := ⟨rfl, rfl, rfl, by decide +kernel, rfl, by decide +kernel, by decide +kernel⟩
theorem scReads : FnScope ["dealing"] ["dealing"] (defScope sReads) := ⟨rfl, rfl, rfl, by decide +kernel, rfl, by decide +kernel, by decide +kernel⟩
theorem scWrites : FnScope ["dealing"] ["dealing"] (defScope sWrites) := ⟨rfl, rfl, rfl, by decide +kernel, rfl, by decide +kernel, by decide +kernel⟩
theorem scClashes : FnScope ["one", "other", "meeting", "mine", "theirs"] ["one", "other"] (defScope sClashes) := ⟨rfl, rfl, rfl, by decide +kernel, rfl, by decide +kernel, by decide +kernel⟩
/-- the errors' classes as the top leaves them -/
structure Txt (K : PySem.W.Frag) (mg : Str → Option Value) (CA CD CS : Addr) : Prop where
  gA : mg "AloneError" = some (.ref CA)
  gD : mg "NoDealing" = some (.ref CD)
  gS : mg "NoDealings" = some (.ref CS)
  vE : mg "ValueError" = none
  xD : PySem.W.excIn K CD [.type "ValueError", .type "Exception", .type "BaseException", .type "object"] "ValueError.__new__" = true
  kD : PySem.W.keepIn K (.ref CD) = true
  bD : PySem.W.subIn K (.ref CD) (.type "BaseException") = some true
  tD : PySem.W.typeIn K (.ref CD) = some (.type "type")
  eA : PySem.W.exmOne K (.ref CD) (.ref CA) = some true
  iD : PySem.W.kitOne K (.ref CD) (.ref CD) = some true
  iV : PySem.W.kitOne K (.ref CD) (.type "ValueError") = some true
  iS : PySem.W.kitOne K (.ref CD) (.ref CS) = some false
  eC : ExcC K CD
section
variable {P : Program} {w : World} {K : PySem.W.Frag} {mg : Str → Option Value} {base : Heap} {CA CD CS : Addr}
/-! ### check_dealing -/
def spCheck (CD : Addr) : Sp := fun vs H Q E => ∃ st v d, vs = [v] ∧ TD st H v d ∧ (isDealing d = true → ∀ H', Same H H' → Q .non H') ∧ (isDealing d = false → ∀ H', Same H H' → E (.ref CD) none H')
theorem ok_check {f f1 : Addr} {fd fd1 : FuncData} {k : Nat} (F : Fun K "check_dealing" "check_dealing" sCheck f fd) (T : Txt K mg CA CD CS) (G1 : FnOk P w K mg base CX0 k f1 fd1 ["thing"] (spD isDealing)) (g1 : mg "is_dealing" = some (.ref f1)) (k1 : PySem.W.keepIn K (.ref f1) = true) (b1 : Binds K fd1 ["thing"] []) :
    FnOk P w K mg base (L2.CX P w) (k + 1) f fd ["thing"] (spCheck CD) := by
  refine F.okX scCheck (fun vs H Q E h => ?_) (fun cdv A outer s H vs Q E hr h => ?_)
  · obtain ⟨st, v, d, rfl, _⟩ := h
    rfl
  · obtain ⟨st, v, d, rfl, td, q1, q2⟩ := h
    refine ⟨_, pss_one (ps_if (pt_not (pt_val (pe_call G1 hr (by rfl) g1 k1 b1 .nil pass0 (pa_cons (pv 0) pa_nil)))) (pss_one (ps_raise rfl (takes_of rfl rfl rfl rfl) (pmk_own PySem.F.excBase_ValueError T.xD T.gD T.kD (raises_own T.bD T.tD) (by rfl)))) pss_nil), ?_⟩
    refine ⟨v, rfl, st, v, d, rfl, td, fun H1 e1 => ⟨_, rfl, ?_⟩⟩
    cases hd : isDealing d with
    | true => exact iteF (q1 hd H1 e1)
    | false => exact iteT (q2 hd H1 e1)
/-! ### boxes_of -/
def bx (l : List Pr) (z : Str) : List Int := (l.filter fun p => decide (p.1 = z)).map (·.2)
theorem range_pick {α β : Type} (l : List α) (d : α) (t : α → Bool) (f : α → β) : ((List.range l.length).filter fun i => t (l.getD i d)).map (fun i => f (l.getD i d)) = (l.filter t).map f := by
  have e : (List.range l.length).map (fun i => l.getD i d) = l := map_range l _ fun i x hx => by rw [List.getD_eq_getElem?_getD, hx]; rfl
  have e2 : l.filter t = (((List.range l.length).map (fun i => l.getD i d))).filter t := by rw [e]
  rw [e2, List.filter_map, List.map_map]
  rfl
theorem decStr (a b : Str) : decide (V.str a = V.str b) = decide (a = b) := decide_eq_decide.mpr ⟨fun z => V.str.inj z, fun z => congrArg V.str z⟩
theorem decInt (a b : Int) : decide (V.int a = V.int b) = decide (a = b) := decide_eq_decide.mpr ⟨fun z => V.int.inj z, fun z => congrArg V.int z⟩
/-- a new list of ints, sorted, of the boxes -/
def spBoxesOf : Sp := fun vs H Q _ => ∃ (st : Addr) (v : V) (l : List Pr) (z : Str), vs = [v, .str z] ∧ TD st H v (.tup (l.map stepD)) ∧ l.length ≤ 8 ∧
  ∀ (ms : List Int) (p : Addr) (H' : Hp), ms.Perm (bx l z) → ms.Pairwise (· ≤ ·) → H p = none → Same H H' → H' p = some (.lst (ms.map V.int)) → Q (.ref p) H'
theorem bx_len (l : List Pr) (z : Str) : (bx l z).length ≤ l.length := by
  unfold bx
  rw [List.length_map]
  exact List.length_filter_le _ _
theorem pr_at {st : Addr} {H : Hp} {xs : List V} {l : List Pr} {i : Nat} {x : V} (t : TDs st H xs (l.map stepD)) (hx : xs[i]? = some x) : ∃ h : i < l.length, ∃ b, x = .ref b ∧ b ≠ st ∧ H b = some (.tup [.str l[i].1, .int l[i].2]) := by
  obtain ⟨d, hd, td⟩ := t.get hx
  rw [List.getElem?_map] at hd
  cases hl : l[i]? with
  | none => rw [hl] at hd; cases hd
  | some p =>
    rw [hl] at hd
    have e : stepD p = d := Option.some.inj hd
    subst e
    obtain ⟨h, e⟩ := List.getElem?_eq_some_iff.mp hl
    subst e
    exact ⟨h, td.stepV⟩
theorem getD_at {l : List Pr} {i : Nat} (h : i < l.length) (d : Pr) : l.getD i d = l[i] := by
  rw [List.getD_eq_getElem?_getD, List.getElem?_eq_getElem h]
  rfl
theorem ok_boxes_of {f : Addr} {fd : FuncData} {k : Nat} (F : Fun K "boxes_of" "boxes_of" sBoxesOf f fd) (M : Mg mg) : FnOk P w K mg base CX0 (k + 1) f fd ["dealing", "asked"] spBoxesOf := by
  refine F.ok scBoxesOf (fun vs H Q E h => ?_) (fun cdv A outer s H vs Q E hr h => ?_)
  · obtain ⟨st, v, l, z, rfl, _⟩ := h
    rfl
  · obtain ⟨st, v, l, z, rfl, td, hl8, q⟩ := h
    refine ⟨_, pss_one (ps_ret (pe_callB cr_sorted (by rfl) M.sorted (by decide +kernel) (pa_cons
      (pe_lc (own := [("word", 3), ("box", 2)]) (g := gTup K 2 (gCons (gName 3) (gCons (gName 2) gNil))) (tt := tTest (tOp rEq (tVar 3) (tVar 1))) (by rfl) scBoxesOf.nd (pi_tup (pv 0)) (blkOk_by (own := [("word", 3), ("box", 2)]) (N := ["dealing", "asked", "box", "word"]) (sc := defScope sBoxesOf) (by decide +kernel))
        (fun _ _ _ _ _ => pg_tup rfl (pgs_cons (pg_name (i := 3) scBoxesOf.nd rfl (Or.inl rfl)) (pgs_cons (pg_name (i := 2) scBoxesOf.nd rfl (Or.inl rfl)) pgs_nil))) (fun _ _ _ _ _ => pts_one (pt_cmpR op_eq (pv 3) (pv 1) (nomark _))) (fun _ _ _ _ _ => pv 2)) pa_nil))), ?_⟩
    cases td with
    | @tup a xs _ n h t =>
    have hl : xs.length = l.length := by rw [t.length, List.length_map]
    refine ⟨.ref a, rfl, a, rfl, ⟨_, SqT.of h⟩, fun D1 hD1 => lc_kept (walk_tup (xs := xs)) (fun i => decide ((l.getD i (wR, 0)).1 = z)) (fun i => .int (l.getD i (wR, 0)).2) hD1 (by omega) (fun H' e => SqT.of (e _ _ h)) (fun i x H2 H3 N R hi e2 y hN hR => ?_) (fun H2 e2 hL => ?_)⟩
    · obtain ⟨rfl, hx⟩ := y
      obtain ⟨hil, b, rfl, nb, hb⟩ := pr_at t hx
      simp only [getD_at hil] at hN hR
      refine ⟨b, _, rfl, SqT.of (e2 _ _ hb), rfl, .str l[i].1, _, rfl, .int l[i].2, _, rfl, rfl, rfl, .str l[i].1, rfl, .str z, rfl, rfl, _, rfl, ?_⟩
      rw [decStr]
      exact ite2 (fun e => ⟨.int l[i].2, rfl, hR e _ (Same.refl _)⟩) (fun e => hN (Bool.eq_false_iff.mpr e) _ (Same.refl _))
    · have e1 : kept xs.length (fun i => decide ((l.getD i (wR, 0)).1 = z)) (fun i => V.int (l.getD i (wR, 0)).2) = (bx l z).map V.int := by
        unfold kept bx
        rw [hl, List.map_map]
        exact range_pick l (wR, 0) (fun p => decide (p.1 = z)) (fun p => V.int p.2)
      rw [e1] at hL
      have hb := bx_len l z
      exact ⟨D1, bx l z, rfl, SqL.of hL, by omega, fun ms p hp hs np => q ms p _ hp hs (Same.free e2 np) (Same.new e2 np) upd_same⟩
/-! ### reads_of, writes_of -/
theorem isDealing_true {d : D} (h : isDealing d = true) : ∃ l, d = .tup (l.map stepD) ∧ StepsOk l ∧ 1 ≤ l.length ∧ l.length ≤ 8 ∧ follow mayP l = true := by
  cases d with
  | tup ds =>
    rw [isDealing_eq, Bool.and_eq_true, Bool.and_eq_true, decide_eq_true_eq, decide_eq_true_eq] at h
    obtain ⟨⟨h1, h8⟩, hf⟩ := h
    cases hp : prs ds with
    | none => rw [hp] at hf; cases hf
    | some l =>
      rw [hp] at hf
      obtain ⟨e, ok⟩ := prs_some hp
      subst e
      rw [List.length_map] at h1 h8
      exact ⟨l, rfl, ok, h1, h8, hf⟩
  | _ => cases h
def spTouch (CD : Addr) (z : Str) : Sp := fun vs H Q E => ∃ (st : Addr) (v : V) (d : D), vs = [v] ∧ TD st H v d ∧
  (isDealing d = true → ∀ (l : List Pr) (ms : List Int) (p : Addr) (H' : Hp), d = .tup (l.map stepD) → ms.Perm (bx l z) → ms.Pairwise (· ≤ ·) → H p = none → Same H H' → H' p = some (.lst (ms.map V.int)) → Q (.ref p) H') ∧
  (isDealing d = false → ∀ H', Same H H' → E (.ref CD) none H')
theorem ok_reads {f f1 f2 : Addr} {fd fd1 fd2 : FuncData} {k : Nat} (F : Fun K "reads_of" "reads_of" sReads f fd) (G1 : FnOk P w K mg base (L2.CX P w) k f1 fd1 ["thing"] (spCheck CD)) (g1 : mg "check_dealing" = some (.ref f1)) (k1 : PySem.W.keepIn K (.ref f1) = true) (b1 : Binds K fd1 ["thing"] [])
    (G2 : FnOk P w K mg base CX0 k f2 fd2 ["dealing", "asked"] spBoxesOf) (g2 : mg "boxes_of" = some (.ref f2)) (k2 : PySem.W.keepIn K (.ref f2) = true) (b2 : Binds K fd2 ["dealing", "asked"] []) :
    FnOk P w K mg base (L2.CX P w) (k + 1) f fd ["dealing"] (spTouch CD wR) := by
  refine F.okX scReads (fun vs H Q E h => ?_) (fun cdv A outer s H vs Q E hr h => ?_)
  · obtain ⟨st, v, d, rfl, _⟩ := h
    rfl
  · obtain ⟨st, v, d, rfl, td, q1, q2⟩ := h
    refine ⟨_, pss_cons (ps_expr (pe_call (E := E) G1 hr (by rfl) g1 k1 b1 .nil (passes_call (takes_of rfl rfl rfl rfl) (fun _ _ _ _ h => h)) (pa_cons (pv 0) pa_nil)))
      (pss_one (ps_ret (pe_call G2 hr (by rfl) g2 k2 b2 .nil pass0 (pa_cons (pv 0) (pa_cons pe_str pa_nil))))), ?_⟩
    refine ⟨v, rfl, st, v, d, rfl, td, fun hd H1 e1 => ?_, q2⟩
    obtain ⟨l, rfl, ok, h1, h8, hf⟩ := isDealing_true hd
    exact ⟨v, rfl, st, v, l, wR, rfl, td.mono (.of e1), h8, fun ms p H' hp hs np e hL => q1 hd l ms p H' rfl hp hs (Same.free e1 np) (Same.trans e1 e) hL⟩
theorem ok_writes {f f1 f2 : Addr} {fd fd1 fd2 : FuncData} {k : Nat} (F : Fun K "writes_of" "writes_of" sWrites f fd) (G1 : FnOk P w K mg base (L2.CX P w) k f1 fd1 ["thing"] (spCheck CD)) (g1 : mg "check_dealing" = some (.ref f1)) (k1 : PySem.W.keepIn K (.ref f1) = true) (b1 : Binds K fd1 ["thing"] [])
    (G2 : FnOk P w K mg base CX0 k f2 fd2 ["dealing", "asked"] spBoxesOf) (g2 : mg "boxes_of" = some (.ref f2)) (k2 : PySem.W.keepIn K (.ref f2) = true) (b2 : Binds K fd2 ["dealing", "asked"] []) :
    FnOk P w K mg base (L2.CX P w) (k + 1) f fd ["dealing"] (spTouch CD wW) := by
  refine F.okX scWrites (fun vs H Q E h => ?_) (fun cdv A outer s H vs Q E hr h => ?_)
  · obtain ⟨st, v, d, rfl, _⟩ := h
    rfl
  · obtain ⟨st, v, d, rfl, td, q1, q2⟩ := h
    refine ⟨_, pss_cons (ps_expr (pe_call (E := E) G1 hr (by rfl) g1 k1 b1 .nil (passes_call (takes_of rfl rfl rfl rfl) (fun _ _ _ _ h => h)) (pa_cons (pv 0) pa_nil)))
      (pss_one (ps_ret (pe_call G2 hr (by rfl) g2 k2 b2 .nil pass0 (pa_cons (pv 0) (pa_cons pe_str pa_nil))))), ?_⟩
    refine ⟨v, rfl, st, v, d, rfl, td, fun hd H1 e1 => ?_, q2⟩
    obtain ⟨l, rfl, ok, h1, h8, hf⟩ := isDealing_true hd
    exact ⟨v, rfl, st, v, l, wW, rfl, td.mono (.of e1), h8, fun ms p H' hp hs np e hL => q1 hd l ms p H' rfl hp hs (Same.free e1 np) (Same.trans e1 e) hL⟩
end
end As

namespace As
open PySem PySem.Spec PyProof.Rows L2
abbrev sDue : Stmt := topS 27
theorem scDue : FnScope ["_law_one", "_law_other", "_law_found", "_law_word", "_law_box_here", "_law_again", "_law_beside"] ["_law_one", "_law_other"] (defScope sDue) := ⟨rfl, rfl, rfl, by decide +kernel, rfl, by decide +kernel, by decide +kernel⟩
def meets (p q : Pr) : Bool := decide (p.2 = q.2) && (decide (p.1 = wW) || decide (q.1 = wW))
def row (p : Pr) (m : List Pr) : List Int := (m.filter (meets p)).map fun _ => p.2
def cl (l m : List Pr) : List Int := l.flatMap fun p => row p m
theorem row_len (p : Pr) (m : List Pr) : (row p m).length ≤ m.length := by
  unfold row
  rw [List.length_map]
  exact List.length_filter_le _ _
theorem row_two {m : List Pr} (p : Pr) (hf : follow mayP m = true) (hw : StepsOk m) : (row p m).length ≤ 2 := by
  unfold row
  rw [List.length_map]
  refine two_of_box hf (fun q hq => (hw q hq).1) p.2 _ fun q hq => ?_
  unfold meets at hq
  rw [Bool.and_eq_true, decide_eq_true_eq] at hq
  exact hq.1.symm
theorem cl_nil (m : List Pr) : cl [] m = [] := rfl
theorem cl_snoc (l : List Pr) (p : Pr) (m : List Pr) : cl (l ++ [p]) m = cl l m ++ row p m := by
  unfold cl
  rw [List.flatMap_append]
  simp
theorem cl_len {l m : List Pr} (hf : follow mayP m = true) (hw : StepsOk m) : (cl l m).length ≤ 2 * l.length := by
  induction l with
  | nil => exact Nat.le_refl _
  | cons p l ih =>
    have h1 := row_two p hf hw
    have e : cl (p :: l) m = row p m ++ cl l m := by unfold cl; rw [List.flatMap_cons]
    rw [e, List.length_append, List.length_cons]
    omega
theorem cl_len2 (l m : List Pr) : (cl l m).length ≤ l.length * m.length := by
  induction l with
  | nil => simp [cl]
  | cons p l ih =>
    have h1 := row_len p m
    have e : cl (p :: l) m = row p m ++ cl l m := by unfold cl; rw [List.flatMap_cons]
    rw [e, List.length_append, List.length_cons, Nat.succ_mul]
    omega
theorem cl_mem {l m : List Pr} {k : Int} : k ∈ cl l m ↔ ∃ p ∈ l, ∃ q ∈ m, meets p q = true ∧ p.2 = k := by
  unfold cl row
  rw [List.mem_flatMap]
  constructor
  · rintro ⟨p, hp, h⟩
    rw [List.mem_map] at h
    obtain ⟨q, hq, e⟩ := h
    exact ⟨p, hp, q, (List.mem_filter.mp hq).1, (List.mem_filter.mp hq).2, e⟩
  · rintro ⟨p, hp, q, hq, h, e⟩
    exact ⟨p, hp, List.mem_map.mpr ⟨q, List.mem_filter.mpr ⟨hq, h⟩, e⟩⟩
theorem cl_swap {l m : List Pr} {k : Int} : k ∈ cl l m ↔ k ∈ cl m l := by
  have half : ∀ {l m : List Pr}, k ∈ cl l m → k ∈ cl m l := fun {l m} h => by
    obtain ⟨p, hp, q, hq, hm, e⟩ := cl_mem.mp h
    unfold meets at hm
    rw [Bool.and_eq_true, decide_eq_true_eq] at hm
    refine cl_mem.mpr ⟨q, hq, p, hp, ?_, hm.1.symm.trans e⟩
    unfold meets
    rw [decide_eq_true hm.1.symm, Bool.true_and, Bool.or_comm]
    exact hm.2
  exact ⟨half, half⟩
theorem row_take {m : List Pr} {j : Nat} {q : Pr} (p : Pr) (h : m[j]? = some q) : row p (m.take (j + 1)) = row p (m.take j) ++ (if meets p q then [p.2] else []) := by
  unfold row
  rw [List.take_add_one, h]
  show ((m.take j ++ [q]).filter (meets p)).map _ = _
  rw [List.filter_append, List.map_append]
  cases hm : meets p q <;> simp [hm]
theorem row_take_len (p : Pr) (m : List Pr) (j : Nat) : (row p (m.take j)).length ≤ m.length := Nat.le_trans (row_len p _) (by rw [List.length_take]; omega)
/-- strictly rising lists with the same members are one -/
theorem rise_same : ∀ {a b : List Int}, a.Pairwise (· < ·) → b.Pairwise (· < ·) → (∀ k, k ∈ a ↔ k ∈ b) → a = b
  | [], [], _, _, _ => rfl
  | [], y :: b, _, _, h => absurd ((h y).mpr (List.mem_cons_self ..)) List.not_mem_nil
  | x :: a, [], _, _, h => absurd ((h x).mp (List.mem_cons_self ..)) List.not_mem_nil
  | x :: a, y :: b, ha, hb, h => by
    rw [List.pairwise_cons] at ha hb
    have exy : x = y := by
      rcases List.mem_cons.mp ((h x).mp (List.mem_cons_self ..)) with e | e
      · exact e
      · rcases List.mem_cons.mp ((h y).mpr (List.mem_cons_self ..)) with e2 | e2
        · exact e2.symm
        · have h1 := hb.1 x e
          have h2 := ha.1 y e2
          omega
    subst exy
    refine congrArg _ (rise_same ha.2 hb.2 fun k => ⟨fun hk => ?_, fun hk => ?_⟩)
    · rcases List.mem_cons.mp ((h k).mp (List.mem_cons_of_mem _ hk)) with e | e
      · subst e
        exact absurd (ha.1 k hk) (by omega)
      · exact e
    · rcases List.mem_cons.mp ((h k).mpr (List.mem_cons_of_mem _ hk)) with e | e
      · subst e
        exact absurd (hb.1 k hk) (by omega)
      · exact e
section
variable {P : Program} {w : World} {K : PySem.W.Frag} {mg : Str → Option Value} {base : Heap} {CA CD CS : Addr}
theorem meets_in (p q : Pr) : inV (.str wW) [.str p.1, .str q.1] = (decide (p.1 = wW) || decide (q.1 = wW)) := by
  have h := inV_str wW [p.1, q.1]
  show inV (.str wW) ([p.1, q.1].map V.str) = _
  rw [h]
  rw [Bool.eq_iff_iff, decide_eq_true_eq, Bool.or_eq_true, decide_eq_true_eq, decide_eq_true_eq]
  simp only [List.mem_cons, List.not_mem_nil, or_false]
  constructor
  · rintro (h | h)
    · exact .inl h.symm
    · exact .inr h.symm
  · rintro (h | h)
    · exact .inl h.symm
    · exact .inr h.symm
/-! ### clashes -/
def spClash (CD : Addr) : Sp := fun vs H Q E => ∃ (st : Addr) (v u : V) (d e : D), vs = [v, u] ∧ TD st H v d ∧ TD st H u e ∧
  (isDealing d = true → isDealing e = true → ∀ (l m : List Pr) (ns : List Int) (p : Addr) (H' : Hp), d = .tup (l.map stepD) → e = .tup (m.map stepD) → ns.Pairwise (· < ·) → (∀ k, k ∈ ns ↔ k ∈ cl l m) → ns.length ≤ 16 → H p = none → Same H H' → H' p = some (.lst (ns.map V.int)) → Q (.ref p) H') ∧
  (isDealing d = false → ∀ H', Same H H' → E (.ref CD) none H') ∧ (isDealing d = true → isDealing e = false → ∀ H', Same H H' → E (.ref CD) none H')
theorem ok_clashes {f f1 : Addr} {fd fd1 : FuncData} {k : Nat} (F : Fun K "clashes" "clashes" sClashes f fd) (M : Mg mg) (G1 : FnOk P w K mg base (L2.CX P w) k f1 fd1 ["thing"] (spCheck CD)) (g1 : mg "check_dealing" = some (.ref f1)) (k1 : PySem.W.keepIn K (.ref f1) = true) (b1 : Binds K fd1 ["thing"] []) :
    FnOk P w K mg base (L2.CX P w) (k + 1) f fd ["one", "other"] (spClash CD) := by
  refine F.okX scClashes (fun vs H Q E h => ?_) (fun cdv A outer s H vs Q E hr h => ?_)
  · obtain ⟨st, v, u, d, e, rfl, _⟩ := h
    rfl
  · obtain ⟨st, v, u, d, e, rfl, td, te, q1, q2, q3⟩ := h
    refine ⟨_, pss_cons (ps_expr (pe_call (E := E) G1 hr (by rfl) g1 k1 b1 .nil (passes_call (takes_of rfl rfl rfl rfl) (fun _ _ _ _ h => h)) (pa_cons (pv 0) pa_nil)))
      (pss_cons (ps_expr (pe_call (E := E) G1 hr (by rfl) g1 k1 b1 .nil (passes_call (takes_of rfl rfl rfl rfl) (fun _ _ _ _ h => h)) (pa_cons (pv 1) pa_nil)))
      (PSs.nox (pss_cons (ps_set (i := 2) scClashes.nd rfl (.inl rfl) (pe_lst pa_nil))
      (pss_cons (ps_for PassesOwn.never rfl (pi_tup (pv 0)) (pg_name (i := 3) scClashes.nd rfl (.inl rfl))
        (pss_one (ps_for PassesOwn.never rfl (pi_tup (pv 1)) (pg_name (i := 4) scClashes.nd rfl (.inl rfl))
          (pss_one (ps_if (PW.pt (pw_and (pt_cmpR op_eq (pe_ix ix_tup (pv 3) pe_int (fun _ _ => rfl)) (pe_ix ix_tup (pv 4) pe_int (fun _ _ => rfl)) (nomark _))
              (pw_and1 (pt_cmpR op_in_seq pe_str (pe_tup (pa_cons (pe_ix ix_tup (pv 3) pe_int (fun _ _ => rfl)) (pa_cons (pe_ix ix_tup (pv 4) pe_int (fun _ _ => rfl)) pa_nil))) (by rfl)))))
            (pss_one (ps_expr (pe_bm PySem.F.plainAttrs_list PySem.F.slot_list_append PySem.F.type_list_append mt_append (pv 2) (pa_cons (pe_ix ix_tup (pv 3) pe_int (fun _ _ => rfl)) pa_nil)))) pss_nil)))))
      (pss_one (ps_ret (pe_callB (cr_sortedSet rfl) (by rfl) M.sorted (by decide +kernel) (pa_cons (pe_callTy (cr_setL rfl) (by rfl) M.set (by decide +kernel) (pa_cons (pv 2) pa_nil)) pa_nil)))))))), ?_⟩
    refine ⟨v, rfl, st, v, d, rfl, td, fun hd H1 e1 => ?_, q2⟩
    refine ⟨u, rfl, st, u, e, rfl, te.mono (.of e1), fun he H2 e2 => ?_, fun he H' e' => q3 hd he H' (Same.trans e1 e')⟩
    obtain ⟨l, rfl, okl, l1, l8, fl⟩ := isDealing_true hd
    obtain ⟨m, rfl, okm, m1, m8, fm⟩ := isDealing_true he
    have e12 := Same.trans e1 e2
    cases td with
    | @tup a xs _ na ha ta =>
    cases te with
    | @tup b ys _ nb hb tb =>
    have hxl : xs.length = l.length := by rw [ta.length, List.length_map]
    have hym : ys.length = m.length := by rw [tb.length, List.length_map]
    refine ⟨Nat.zero_le _, fun o no => ?_⟩
    have noH : H o = none := Same.free e12 no
    refine ⟨.ref a, rfl, a, rfl, ⟨_, SqT.of (same_new no _ _ (e12 _ _ ha))⟩, for_tup (xs := xs) (fun i σ H' => ∃ y3 y4, σ = [some (.ref a), some (.ref b), some (.ref o), y3, y4] ∧ Same H H' ∧ H' o = some (.lst ((cl (l.take i) m).map V.int))) ⟨none, none, rfl, Same.new e12 no, by rw [List.take_zero, cl_nil]; exact upd_same⟩ (fun i σ H' _ hP => ?_) (fun i x σ H3 hx hP => ?_) (fun σ H3 hP => ?_)⟩
    · obtain ⟨_, _, _, e, _⟩ := hP
      exact SqT.of (e _ _ ha)
    · obtain ⟨y3, y4, rfl, e3, ho3⟩ := hP
      obtain ⟨hil, bp, rfl, _, hbp⟩ := pr_at ta hx
      refine ⟨.ref b, rfl, b, rfl, ⟨_, SqT.of (e3 _ _ hb)⟩, for_tup (xs := ys) (fun j σ H' => ∃ y4, σ = [some (.ref a), some (.ref b), some (.ref o), some (.ref bp), y4] ∧ Same H H' ∧ H' o = some (.lst ((cl (l.take i) m ++ row l[i] (m.take j)).map V.int))) ⟨_, rfl, e3, by rw [List.take_zero]; show H3 o = some (.lst ((cl (l.take i) m ++ []).map V.int)); rw [List.append_nil]; exact ho3⟩ (fun j σ H' _ hP => ?_) (fun j y σ H4 hy hP => ?_) (fun σ H4 hP => ?_)⟩
      · obtain ⟨_, _, e, _⟩ := hP
        exact SqT.of (e _ _ hb)
      · obtain ⟨z4, rfl, e4, ho4⟩ := hP
        obtain ⟨hjm, bq, rfl, _, hbq⟩ := pr_at tb hy
        have hrt := row_take l[i] (List.getElem?_eq_getElem hjm)
        refine ⟨.ref bp, rfl, bp, _, 1, .int l[i].2, rfl, rfl, SqT.of (e4 _ _ hbp), rfl, .ref bq, rfl, bq, _, 1, .int m[j].2, rfl, rfl, SqT.of (e4 _ _ hbq), rfl, rfl, _, rfl, ?_⟩
        rw [decInt]
        unfold meets at hrt
        cases h1 : decide (l[i].2 = m[j].2) with
        | false =>
          rw [h1, Bool.false_and, if_neg Bool.false_ne_true, List.append_nil] at hrt
          refine iteF (iteF ⟨_, rfl, e4, ?_⟩)
          rw [hrt]
          exact ho4
        | true =>
          rw [h1, Bool.true_and] at hrt
          refine iteT ⟨.ref bp, rfl, bp, _, 0, .str l[i].1, rfl, rfl, SqT.of (e4 _ _ hbp), rfl, .ref bq, rfl, bq, _, 0, .str m[j].1, rfl, rfl, SqT.of (e4 _ _ hbq), rfl, by show 2 ≤ sizeLine; decide, fun c nc => ?_⟩
          have e5 := Same.new (o := .tup [.str l[i].1, .str m[j].1]) e4 nc
          have ho5 := same_new (o := .tup [.str l[i].1, .str m[j].1]) nc _ _ ho4
          refine ⟨c, _, rfl, .inr (SqT.of upd_same), rfl, flat_strs [l[i].1, m[j].1], _, rfl, ?_⟩
          show if inV (.str wW) [.str l[i].1, .str m[j].1] = true then _ else _
          rw [meets_in]
          refine ite2 (fun h2 => ?_) (fun h2 => ?_)
          · rw [if_pos h2] at hrt
            refine ⟨.ref o, rfl, .inl ⟨rfl, _, SqL.of ho5⟩, .ref bp, rfl, bp, _, 1, .int l[i].2, rfl, rfl, SqT.of (e5 _ _ hbp), rfl, o, _, _, rfl, rfl, ho5, ?_, ?_⟩
            · rw [List.length_map, List.length_append]
              have c1 := cl_len2 (l.take i) m
              have c2 := row_take_len l[i] m j
              have c3 : (l.take i).length * m.length ≤ 8 * 8 := Nat.mul_le_mul (by rw [List.length_take]; omega) m8
              exact sl_lt (by omega)
            · refine ⟨_, rfl, Same.mut e5 noH, ?_⟩
              rw [hrt, upd_same]
              simp only [List.map_append, List.map_cons, List.map_nil, List.append_assoc]
          · rw [if_neg h2, List.append_nil] at hrt
            refine ⟨_, rfl, e5, ?_⟩
            rw [hrt]
            exact ho5
      · obtain ⟨z4, rfl, e4, ho4⟩ := hP
        refine ⟨_, _, rfl, e4, ?_⟩
        rw [hym, List.take_of_length_le (Nat.le_refl _), ← cl_snoc] at ho4
        rw [List.take_add_one, List.getElem?_eq_getElem hil]
        exact ho4
    · obtain ⟨y3, y4, rfl, e3, ho3⟩ := hP
      rw [hxl, List.take_of_length_le (Nat.le_refl _)] at ho3
      have hc := cl_len (l := l) fm okm
      refine ⟨.ref o, rfl, o, cl l m, rfl, SqL.of ho3, by omega, fun p c np hle => ⟨p, _, c, rfl, upd_same, by omega, fun ns p2 hs hm hlen np2 => ?_⟩⟩
      have e5 := Same.new (o := SetO w p (fun j => decide (j ∈ cl l m)) c) e3 np
      exact q1 hd he l m ns p2 _ rfl rfl hs (fun k => by rw [hm k]; exact decide_eq_true_iff) (by omega) (Same.free e5 np2) (Same.new e5 np2) upd_same
end
end As

namespace As
open PySem PySem.Spec PyProof.Rows L2
abbrev sBoxes2 : Stmt := topS 25
abbrev sNone : Stmt := topS 28
theorem scBoxes2 : FnScope ["_law_found", "_law_due_here", "_law_one"] ["_law_found", "_law_due_here"] (defScope sBoxes2) := ⟨rfl, rfl, rfl, by decide +kernel, rfl, by decide +kernel, by decide +kernel⟩
theorem scNone : FnScope ["_law_state", "_law_dealing_here", "_law_some"] ["_law_state", "_law_dealing_here"] (defScope sNone) := ⟨rfl, rfl, rfl, by decide +kernel, rfl, by decide +kernel, by decide +kernel⟩
section
variable {P : Program} {w : World} {K : PySem.W.Frag} {mg : Str → Option Value} {base : Heap} {CA CD CS : Addr}
/-! ### due -/
def spDue : Sp := fun vs H Q _ => ∃ (st : Addr) (v u : V) (l m : List Pr), vs = [v, u] ∧ TD st H v (.tup (l.map stepD)) ∧ TD st H u (.tup (m.map stepD)) ∧ l.length ≤ 8 ∧ m.length ≤ 8 ∧ follow mayP m = true ∧ StepsOk m ∧
  ∀ (ns : List Int) (p : Addr) (H' : Hp), ns.Pairwise (· < ·) → (∀ k, k ∈ ns ↔ k ∈ cl l m) → ns.length ≤ 16 → H p = none → Same H H' → H' p = some (.lst (ns.map V.int)) → Q (.ref p) H'
theorem ok_due {f : Addr} {fd : FuncData} {k : Nat} (F : Fun K "_law_due" "_law_due" sDue f fd) (M : Mg mg) : FnOk P w K mg base CX0 (k + 1) f fd ["_law_one", "_law_other"] spDue := by
  refine F.ok scDue (fun vs H Q E h => ?_) (fun cdv A outer s H vs Q E hr h => ?_)
  · obtain ⟨st, v, u, l, m, rfl, _⟩ := h
    rfl
  · obtain ⟨st, v, u, l, m, rfl, td, te, l8, m8, fm, okm, q⟩ := h
    refine ⟨_, pss_cons (ps_set (i := 2) scDue.nd rfl (.inl rfl) (pe_lst pa_nil))
      (pss_cons (ps_for PassesOwn.never rfl (pi_tup (pv 0)) (pg_tup rfl (pgs_cons (pg_name (i := 3) scDue.nd rfl (.inl rfl)) (pgs_cons (pg_name (i := 4) scDue.nd rfl (.inl rfl)) pgs_nil)))
        (pss_one (ps_for PassesOwn.never rfl (pi_tup (pv 1)) (pg_tup rfl (pgs_cons (pg_name (i := 5) scDue.nd rfl (.inl rfl)) (pgs_cons (pg_name (i := 6) scDue.nd rfl (.inl rfl)) pgs_nil)))
          (pss_one (ps_if (PW.pt (pw_and (pt_cmpR op_eq (pv 4) (pv 6) (nomark _)) (pw_and1 (PW.pt (pw_or (pt_cmpR op_eq (pv 3) pe_str (nomark _)) (pw_or1 (pt_cmpR op_eq (pv 5) pe_str (nomark _))))))))
            (pss_one (ps_expr (pe_bm PySem.F.plainAttrs_list PySem.F.slot_list_append PySem.F.type_list_append mt_append (pv 2) (pa_cons (pv 4) pa_nil)))) pss_nil)))))
      (pss_one (ps_ret (pe_callB (cr_sortedSet rfl) (by rfl) M.sorted (by decide +kernel) (pa_cons (pe_callTy (cr_setL rfl) (by rfl) M.set (by decide +kernel) (pa_cons (pv 2) pa_nil)) pa_nil))))), ?_⟩
    cases td with
    | @tup a xs _ na ha ta =>
    cases te with
    | @tup b ys _ nb hb tb =>
    have hxl : xs.length = l.length := by rw [ta.length, List.length_map]
    have hym : ys.length = m.length := by rw [tb.length, List.length_map]
    refine ⟨Nat.zero_le _, fun o no => ?_⟩
    refine ⟨.ref a, rfl, a, rfl, ⟨_, SqT.of (same_new no _ _ ha)⟩, for_tup (xs := xs) (fun i σ H' => ∃ y3 y4 y5 y6, σ = [some (.ref a), some (.ref b), some (.ref o), y3, y4, y5, y6] ∧ Same H H' ∧ H' o = some (.lst ((cl (l.take i) m).map V.int))) ⟨none, none, none, none, rfl, same_new no, by rw [List.take_zero, cl_nil]; exact upd_same⟩ (fun i σ H' _ hP => ?_) (fun i x σ H3 hx hP => ?_) (fun σ H3 hP => ?_)⟩
    · obtain ⟨_, _, _, _, _, e, _⟩ := hP
      exact SqT.of (e _ _ ha)
    · obtain ⟨y3, y4, y5, y6, rfl, e3, ho3⟩ := hP
      obtain ⟨hil, bp, rfl, _, hbp⟩ := pr_at ta hx
      refine ⟨bp, _, rfl, SqT.of (e3 _ _ hbp), rfl, .str l[i].1, _, rfl, .int l[i].2, _, rfl, rfl, ?_⟩
      refine ⟨.ref b, rfl, b, rfl, ⟨_, SqT.of (e3 _ _ hb)⟩, for_tup (xs := ys) (fun j σ H' => ∃ y5 y6, σ = [some (.ref a), some (.ref b), some (.ref o), some (.str l[i].1), some (.int l[i].2), y5, y6] ∧ Same H H' ∧ H' o = some (.lst ((cl (l.take i) m ++ row l[i] (m.take j)).map V.int))) ⟨_, _, rfl, e3, by rw [List.take_zero]; show H3 o = some (.lst ((cl (l.take i) m ++ []).map V.int)); rw [List.append_nil]; exact ho3⟩ (fun j σ H' _ hP => ?_) (fun j y σ H4 hy hP => ?_) (fun σ H4 hP => ?_)⟩
      · obtain ⟨_, _, _, e, _⟩ := hP
        exact SqT.of (e _ _ hb)
      · obtain ⟨z5, z6, rfl, e4, ho4⟩ := hP
        obtain ⟨hjm, bq, rfl, _, hbq⟩ := pr_at tb hy
        have hrt := row_take l[i] (List.getElem?_eq_getElem hjm)
        refine ⟨bq, _, rfl, SqT.of (e4 _ _ hbq), rfl, .str m[j].1, _, rfl, .int m[j].2, _, rfl, rfl, ?_⟩
        refine ⟨.int l[i].2, rfl, .int m[j].2, rfl, rfl, _, rfl, ?_⟩
        rw [decInt]
        have goOn : ∀ y5 y6, meets l[i] m[j] = false → ∃ y5' y6', [some (V.ref a), some (.ref b), some (.ref o), some (.str l[i].1), some (.int l[i].2), y5, y6] = [some (V.ref a), some (.ref b), some (.ref o), some (.str l[i].1), some (.int l[i].2), y5', y6'] ∧ Same H H4 ∧ H4 o = some (.lst ((cl (l.take i) m ++ row l[i] (m.take (j + 1))).map V.int)) := fun y5 y6 hm => by
          rw [hm, if_neg Bool.false_ne_true, List.append_nil] at hrt
          exact ⟨y5, y6, rfl, e4, by rw [hrt]; exact ho4⟩
        have grow : meets l[i] m[j] = true → ∃ y5' y6', [some (V.ref a), some (.ref b), some (.ref o), some (.str l[i].1), some (.int l[i].2), some (.str m[j].1), some (.int m[j].2)] = [some (V.ref a), some (.ref b), some (.ref o), some (.str l[i].1), some (.int l[i].2), y5', y6'] ∧ Same H (upd H4 o (.lst ((cl (l.take i) m ++ row l[i] (m.take j)).map V.int ++ [.int l[i].2]))) ∧ (upd H4 o (.lst ((cl (l.take i) m ++ row l[i] (m.take j)).map V.int ++ [.int l[i].2]))) o = some (.lst ((cl (l.take i) m ++ row l[i] (m.take (j + 1))).map V.int)) := fun hm => by
          rw [hm, if_pos rfl] at hrt
          refine ⟨_, _, rfl, Same.mut e4 no, ?_⟩
          rw [hrt, upd_same]
          simp only [List.map_append, List.map_cons, List.map_nil, List.append_assoc]
        have hlen : ((cl (l.take i) m ++ row l[i] (m.take j)).map V.int).length < sizeLine := by
          rw [List.length_map, List.length_append]
          have c1 := cl_len2 (l.take i) m
          have c2 := row_take_len l[i] m j
          have c3 : (l.take i).length * m.length ≤ 8 * 8 := Nat.mul_le_mul (by rw [List.length_take]; omega) m8
          exact sl_lt (by omega)
        cases h1 : decide (l[i].2 = m[j].2) with
        | false => exact iteF (iteF (goOn _ _ (by unfold meets; rw [h1, Bool.false_and])))
        | true =>
          refine iteT ⟨.str l[i].1, rfl, rfl, _, rfl, ?_⟩
          rw [decStr]
          refine ite2 (fun h2 => ?_) (fun h2 => ?_)
          · have h2' : decide (l[i].1 = wW) = true := h2
            exact iteT ⟨.ref o, rfl, .inl ⟨rfl, _, SqL.of ho4⟩, .int l[i].2, rfl, o, _, _, rfl, rfl, ho4, hlen, grow (by unfold meets; rw [h1, h2', Bool.true_or, Bool.true_and])⟩
          · have h2' : decide (l[i].1 = wW) = false := Bool.eq_false_iff.mpr h2
            refine ⟨.str m[j].1, rfl, rfl, _, rfl, ?_⟩
            rw [decStr]
            refine ite2 (fun h3 => ?_) (fun h3 => ?_)
            · have h3' : decide (m[j].1 = wW) = true := h3
              exact ⟨.ref o, rfl, .inl ⟨rfl, _, SqL.of ho4⟩, .int l[i].2, rfl, o, _, _, rfl, rfl, ho4, hlen, grow (by unfold meets; rw [h1, h3', Bool.or_true, Bool.true_and])⟩
            · have h3' : decide (m[j].1 = wW) = false := Bool.eq_false_iff.mpr h3
              exact goOn _ _ (by unfold meets; rw [h1, h2', h3', Bool.or_false, Bool.and_false])
      · obtain ⟨z5, z6, rfl, e4, ho4⟩ := hP
        refine ⟨_, _, _, _, rfl, e4, ?_⟩
        rw [hym, List.take_of_length_le (Nat.le_refl _), ← cl_snoc] at ho4
        rw [List.take_add_one, List.getElem?_eq_getElem hil]
        exact ho4
    · obtain ⟨y3, y4, y5, y6, rfl, e3, ho3⟩ := hP
      rw [hxl, List.take_of_length_le (Nat.le_refl _)] at ho3
      have hc := cl_len (l := l) fm okm
      refine ⟨.ref o, rfl, o, cl l m, rfl, SqL.of ho3, by omega, fun p c np hle => ⟨p, _, c, rfl, upd_same, by omega, fun ns p2 hs hm hlen np2 => ?_⟩⟩
      have e5 := Same.new (o := SetO w p (fun j => decide (j ∈ cl l m)) c) e3 np
      exact q ns p2 _ hs (fun k => by rw [hm k]; exact decide_eq_true_iff) (by omega) (Same.free e5 np2) (Same.new e5 np2) upd_same
/-! ### the law's boxes -/
theorem lay_ints : ∀ ns : List Int, PyData.canLayAll0 (ns.map PyData.int) = true
  | [] => by simp [PyData.canLayAll0]
  | n :: ns => by simp [PyData.canLayAll0, PyData.canLay0, lay_ints ns]
theorem depth_ints : ∀ ns : List Int, PyData.depthAll (ns.map PyData.int) = 0
  | [] => by simp [PyData.depthAll]
  | n :: ns => by simp [PyData.depthAll, PyData.depth, depth_ints ns]
theorem lay_bools : ∀ bs : List Bool, PyData.canLayAll0 (bs.map PyData.bool) = true
  | [] => by simp [PyData.canLayAll0]
  | n :: ns => by simp [PyData.canLayAll0, PyData.canLay0, lay_bools ns]
theorem depth_bools : ∀ bs : List Bool, PyData.depthAll (bs.map PyData.bool) = 0
  | [] => by simp [PyData.depthAll]
  | n :: ns => by simp [PyData.depthAll, PyData.depth, depth_bools ns]
theorem shaped_of {ds : List PyData} (h1 : PyData.canLayAll0 ds = true) (h2 : PyData.depthAll ds = 0) : SeqAt.shaped (.list ds) = true := by
  show (PyData.canLay0 (.list ds) && decide (PyData.depth (.list ds) ≤ 64)) = true
  rw [Bool.and_eq_true]
  refine ⟨by simp only [PyData.canLay0]; exact h1, decide_eq_true ?_⟩
  simp only [PyData.depth]
  omega
theorem dp_ints {H : Hp} : ∀ ns : List Int, DpAll K H (ns.map V.int) (ns.map PyData.int)
  | [] => .nil
  | n :: ns => .cons (.int n) (dp_ints ns)
theorem dp_bools {H : Hp} : ∀ bs : List Bool, DpAll K H (bs.map V.bl) (bs.map PyData.bool)
  | [] => .nil
  | n :: ns => .cons (.bl n) (dp_bools ns)
def spBoxes2 : Sp := fun vs H Q _ => ∃ (a b : Addr) (ns : List Int), vs = [.ref a, .ref b] ∧ H a = some (.lst (ns.map V.int)) ∧ H b = some (.lst (ns.map V.int)) ∧ ns.length ≤ 100 ∧ ∀ H', Same H H' → Q (.bl true) H'
theorem ok_boxes2 {f : Addr} {fd : FuncData} {k : Nat} (F : Fun K "_law_boxes" "_law_boxes" sBoxes2 f fd) (M : Mg mg) : FnOk P w K mg base CX0 (k + 1) f fd ["_law_found", "_law_due_here"] spBoxes2 := by
  refine F.ok scBoxes2 (fun vs H Q E h => ?_) (fun cdv A outer s H vs Q E hr h => ?_)
  · obtain ⟨a, b, ns, rfl, _⟩ := h
    rfl
  · obtain ⟨a, b, ns, rfl, ha, hb, hl, q⟩ := h
    refine ⟨_, pss_one (ps_ret (pe_and (pe_callB call_isi (by rfl) M.isinstance (by decide +kernel) (pa_cons (pv 0) (pa_cons (pe_bltn (v := .ty "list") (by rfl) M.list (by decide +kernel) rfl) pa_nil)))
      (pe_and (pe_cmpR (op_eqD hr.units)
          (pe_lc (own := [("_law_one", 2)]) (g := gName 2) (by rfl) scBoxes2.nd (pi_list (pv 0)) (blkOk_by (own := [("_law_one", 2)]) (N := ["_law_found", "_law_due_here", "_law_one"]) (sc := defScope sBoxes2) (by decide +kernel))
            (fun _ _ _ _ _ => pg_name (i := 2) scBoxes2.nd rfl (Or.inl rfl)) (fun _ _ _ _ _ => pts_nil) (fun _ _ _ _ _ => pe_callB (show CallR _ (.builtin "isinstance") (rIsi K) from call_isi) (by rfl) M.isinstance (by decide +kernel) (pa_cons (pv 2) (pa_cons (pe_bltn (v := .ty "bool") (by rfl) M.bool (by decide +kernel) rfl) pa_nil))))
          (pe_op op_rep (pe_lst (pa_cons pe_bl pa_nil)) (pe_callB call_len_seq (by rfl) M.len PySem.boot_len (pa_cons (pv 1) pa_nil))) (nomark _))
      (pe_one (pe_cmpR (op_eqD hr.units) (pv 0) (pv 1) (nomark _)))))), ?_⟩
    refine ⟨.ref a, rfl, .ref a, .ty "list", _, _, true, rfl, .ty _, .base (.lst ha), kit_ty (kit_lst (.lst [])), _, rfl, iteT ?_⟩
    refine ⟨.ref a, rfl, a, rfl, ⟨_, SqL.of ha⟩, fun D1 hD1 => lc_kept (walk_list (xs := ns.map V.int)) (fun _ => true) (fun _ => .bl false) hD1 (by rw [List.length_map]; omega) (fun H' e => SqL.of (e _ _ ha)) (fun i x H2 H3 N R hi e2 y hN hR => ?_) (fun H2 e2 hL => ?_)⟩
    · obtain ⟨rfl, hx⟩ := y
      obtain ⟨n, hn⟩ : ∃ n, x = V.int n := by
        rw [List.getElem?_map] at hx
        cases hi : ns[i]? with
        | none => rw [hi] at hx; cases hx
        | some n => rw [hi] at hx; exact ⟨n, (Option.some.inj hx).symm⟩
      subst hn
      exact ⟨rfl, yesI ⟨.int n, rfl, .int n, .ty "bool", _, _, false, rfl, .ty _, .base (.int n), kit_ty (kit_bool (.int n)), hR rfl _ (Same.refl _)⟩⟩
    · refine ⟨by show 1 ≤ sizeLine; decide, fun c nc => ⟨.ref b, rfl, b, ns.map V.int, rfl, .inl (SqL.of (same_new nc _ _ (e2 _ _ hb))), c, _, [.bl false], rfl, rfl, upd_same, by omega, by rw [List.length_map]; omega, sl_of (by rw [List.length_map]; show 1 * _ ≤ _; omega), fun p np => ?_⟩⟩
      have e3 := Same.trans e2 (Same.trans (same_new (o := .lst [.bl false]) nc) (same_new (o := .lst (List.replicate (((ns.map V.int).length : Nat) : Int).toNat [V.bl false]).flatten) np))
      have eF : ∀ n : Nat, (List.replicate n [V.bl false]).flatten = (List.replicate n false).map V.bl := fun n => by
        rw [List.map_replicate]
        induction n with
        | zero => rfl
        | succ n ih => rw [List.replicate_succ, List.flatten_cons, ih, List.replicate_succ]; rfl
      have eK : kept (ns.map V.int).length (fun _ => true) (fun _ => V.bl false) = (List.replicate ns.length false).map V.bl := by
        rw [kept_all, List.length_map, List.map_replicate]
        refine List.eq_replicate_iff.mpr ⟨by rw [List.length_map, List.length_range], fun b hb => ?_⟩
        obtain ⟨_, _, e⟩ := List.mem_map.mp hb
        exact e.symm
      rw [eK] at hL
      have hp : (upd (upd H2 c (.lst [.bl false])) p (.lst (List.replicate (((ns.map V.int).length : Nat) : Int).toNat [V.bl false]).flatten)) p = some (.lst ((List.replicate ns.length false).map V.bl)) := by
        rw [upd_same, eF, List.length_map, Int.toNat_natCast]
      have hL2 := same_new (o := .lst (List.replicate (((ns.map V.int).length : Nat) : Int).toNat [V.bl false]).flatten) np _ _ (same_new (o := .lst [.bl false]) nc _ _ hL)
      refine ⟨.list ((List.replicate ns.length false).map PyData.bool), .list ((List.replicate ns.length false).map PyData.bool), .lst (SqL.of hL2) (dp_bools _), .lst (SqL.of hp) (dp_bools _), shaped_of (lay_bools _) (depth_bools _), shaped_of (lay_bools _) (depth_bools _), _, rfl, ?_⟩
      rw [SeqAt.eqv_refl _ (by simp only [PyData.canLay0]; exact lay_bools _)]
      refine iteT ⟨.ref a, rfl, .ref b, rfl, .list (ns.map PyData.int), .list (ns.map PyData.int), .lst (SqL.of (e3 _ _ ha)) (dp_ints _), .lst (SqL.of (e3 _ _ hb)) (dp_ints _), shaped_of (lay_ints _) (depth_ints _), shaped_of (lay_ints _) (depth_ints _), ?_⟩
      rw [SeqAt.eqv_refl _ (by simp only [PyData.canLay0]; exact lay_ints _)]
      exact q _ e3
end
end As

namespace As
open PySem PySem.Spec PyProof.Rows L2
section
variable {P : Program} {w : World} {K : PySem.W.Frag} {mg : Str → Option Value} {base : Heap} {CA CD CS : Addr}
/-! ### what is no dealing -/
theorem TDs.pickIn {st : Addr} {H : Hp} {xs : List V} {ds : List D} {r : Int} (t : TDs st H xs ds) (h0 : 0 ≤ r) (h1 : r < xs.length) : ∃ v d, atI xs r = some v ∧ TD st H v d ∧ d ∈ ds := by
  obtain ⟨j, rfl⟩ : ∃ j : Nat, r = (j : Int) := ⟨r.toNat, by omega⟩
  have hj : j < xs.length := by omega
  have hx : xs[j]? = some xs[j] := List.getElem?_eq_getElem hj
  obtain ⟨d, hd, td⟩ := t.get hx
  exact ⟨xs[j], d, atI_nat hx, td, List.mem_of_getElem? hd⟩
theorem no_step (p : Pr) : isDealing (stepD p) = false := by
  show isDealing (.tup [.str p.1, .int p.2]) = false
  rw [isDealing_eq]
  rfl
theorem no_nest (l : List Pr) : isDealing (.tup [.tup (l.map stepD)]) = false := by
  have h : isStep (.tup (l.map stepD)) = false := by
    match l with
    | [] => rfl
    | [p] => rfl
    | [p, q] => rfl
    | p :: q :: r :: t => rfl
  exact isDealing_noStep (i := 0) rfl h
theorem no_twice {l : List Pr} (hok : StepsOk l) (h1 : 1 ≤ l.length) : isDealing (.tup (l.map stepD ++ l.map stepD)) = false := by
  have e : l.map stepD ++ l.map stepD = (l ++ l).map stepD := (List.map_append ..).symm
  have hp : prs ((l ++ l).map stepD) = some (l ++ l) := prs_of fun p hp => (List.mem_append.mp hp).elim (hok p) (hok p)
  rw [e, isDealing_eq, hp]
  have hl : (l ++ l)[l.length]? = some l[0] := by
    rw [List.getElem?_append_right (Nat.le_refl _), Nat.sub_self, List.getElem?_eq_getElem]
  have hf : follow mayP (l ++ l) = false := follow_not hl (by
    unfold mayP
    rw [List.take_append_of_le_length (Nat.le_refl _), List.take_of_length_le (Nat.le_refl _), decide_eq_true (List.getElem_mem (show 0 < l.length by omega))]
    rfl)
  show (_ && follow mayP (l ++ l)) = false
  rw [hf, Bool.and_false]
def spNone : Sp := fun vs H Q _ => ∃ (st : Addr) (v : V) (l : List Pr), vs = [.ref st, v] ∧ Well st H ∧ TD st H v (.tup (l.map stepD)) ∧ 1 ≤ l.length ∧ l.length ≤ 8 ∧ StepsOk l ∧
  ∀ v' d H', TD st H' v' d → isDealing d = false → Well st H' → ExS st H H' → Q v' H'
theorem ok_none {f f1 : Addr} {fd fd1 : FuncData} {k : Nat} (F : Fun K "_law_none" "_law_none" sNone f fd) (M : Mg mg) (G1 : FnOk P w K mg base CX0 k f1 fd1 ["_law_state", "_law_base"] spDigit) (g1 : mg "_law_digit" = some (.ref f1)) (k1 : PySem.W.keepIn K (.ref f1) = true) (b1 : Binds K fd1 ["_law_state", "_law_base"] []) :
    FnOk P w K mg base CX0 (k + 1) f fd ["_law_state", "_law_dealing_here"] spNone := by
  refine F.ok scNone (fun vs H Q E h => ?_) (fun cdv A outer s H vs Q E hr h => ?_)
  · obtain ⟨st, v, l, rfl, _⟩ := h
    rfl
  · obtain ⟨st, v, l, rfl, hW, td, hl1, hl8, hok, q⟩ := h
    refine ⟨_, pss_cons (ps_set (i := 2) scNone.nd rfl (.inl rfl) (pe_lst (pa_cons pe_non (pa_cons (pe_callTy call_list_of (by rfl) M.list (by decide +kernel) (pa_cons (pv 1) pa_nil)) (pa_cons (pe_tup pa_nil) (pa_cons (pe_ix ix_tup (pv 1) pe_int (fun _ _ => rfl)) (pa_cons (pe_op op_catA (pv 1) (pv 1)) (pa_cons (pe_tup (pa_cons (pv 1) pa_nil)) (pa_cons pe_str (pa_cons pe_int (pa_cons (pe_tup (pa_cons (pe_tup (pa_cons pe_str (pa_cons (pe_un un_neg pe_int) pa_nil))) pa_nil)) pa_nil)))))))))))
      (pss_one (ps_ret (pe_ix ix_list (pv 2) (pe_call G1 hr (by rfl) g1 k1 b1 .nil pass0 (pa_cons (pv 0) (pa_cons pe_int pa_nil))) (fun _ _ => rfl)))), ?_⟩
    cases td with
    | @tup a xs _ na ha t =>
    have hlx : xs.length = l.length := by rw [t.length, List.length_map]
    have td : TD st H (.ref a) (.tup (l.map stepD)) := .tup na ha t
    obtain ⟨x0, hx0⟩ : ∃ x, xs[0]? = some x := ⟨_, List.getElem?_eq_getElem (show 0 < xs.length by omega)⟩
    obtain ⟨d0, hd0, tx0⟩ := t.get hx0
    have ed0 : d0 = stepD l[0] := by
      rw [List.getElem?_map, List.getElem?_eq_getElem (show 0 < l.length by omega)] at hd0
      exact (Option.some.inj hd0).symm
    subst ed0
    refine ⟨.ref a, rfl, a, xs, rfl, .inr (SqT.of ha), fun c1 m1 => ?_⟩
    have s1 := same_new (o := .lst xs) m1
    have V1 := hW.same s1
    refine ⟨by show 0 ≤ sizeLine; decide, fun c2 m2 => ?_⟩
    have s2 := same_new (o := .tup []) m2
    have V2 := V1.same s2
    have s12 := Same.trans s1 s2
    refine ⟨.ref a, rfl, a, xs, 0, x0, rfl, rfl, SqT.of (s12 _ _ ha), atI_nat (j := 0) hx0, ?_⟩
    refine ⟨.ref a, rfl, .ref a, rfl, ?_⟩
    refine cat_ok V2 (td.mono (.of s12)) (td.mono (.of s12)) (by rw [List.length_map]; omega) fun c3 H3 t3 s3 => ?_
    have V3 := V2.same s3
    have s13 := Same.trans s12 s3
    refine ⟨.ref a, rfl, by show 1 ≤ sizeLine; decide, fun c4 m4 => ?_⟩
    have s4 := same_new (o := .tup [.ref a]) m4
    have V4 := V3.same s4
    refine ⟨1, rfl, by show 2 ≤ sizeLine; decide, fun c5 m5 => ?_⟩
    have s5 := same_new (o := .tup [.str wR, .int (-1)]) m5
    have V5 := V4.same s5
    refine ⟨by show 1 ≤ sizeLine; decide, fun c6 m6 => ?_⟩
    have s6 := same_new (o := .tup [.ref c5]) m6
    have V6 := V5.same s6
    refine ⟨by show 9 ≤ sizeLine; decide, fun c7 m7 => ?_⟩
    have s7 := same_new (o := .lst [.non, .ref c1, .ref c2, x0, .ref c3, .ref c4, .str (Str.ofString "r1"), .int 5, .ref c6]) m7
    have V7 := V6.same s7
    refine ⟨.ref c7, rfl, .ref st, rfl, st, 9, rfl, V7, by decide, by decide, fun r H8 h80 h81 W8 e8 => ?_⟩
    have s37 := Same.trans s4 (Same.trans s5 (Same.trans s6 s7))
    have s17 := Same.trans s13 s37
    have tl := TDs.mono e8 (TDs.cons TD.non (TDs.cons (TD.lst (hW.ne m1) (s37 _ _ (s3 _ _ (s2 _ _ upd_same))) (t.mono (.of s17))) (TDs.cons (TD.tup (V1.ne m2) (s37 _ _ (s3 _ _ upd_same)) .nil) (TDs.cons (tx0.mono (.of s17)) (TDs.cons (t3.mono (.of s37))
      (TDs.cons (TD.tup (V3.ne m4) (s7 _ _ (s6 _ _ (s5 _ _ upd_same))) (.cons (td.mono (.of s17)) .nil)) (TDs.cons (TD.str (Str.ofString "r1")) (TDs.cons (TD.int 5) (TDs.cons (TD.tup (V5.ne m6) (s7 _ _ upd_same) (.cons (TD.tup (V4.ne m5) (s7 _ _ (s6 _ _ upd_same)) (.cons (.str wR) (.cons (.int (-1)) .nil))) .nil)) .nil)))))))))
    obtain ⟨y, dy, ay, ty, my⟩ := tl.pickIn h80 h81
    refine ⟨c7, _, r, y, rfl, rfl, SqL.of (e8 _ _ (V6.ne m7) upd_same), ay, q y dy H8 ty ?_ W8 (ExS.trans (.of s17) e8)⟩
    simp only [List.mem_cons, List.not_mem_nil, or_false] at my
    rcases my with rfl | rfl | rfl | rfl | rfl | rfl | rfl | rfl | rfl
    · rfl
    · rfl
    · rfl
    · exact no_step _
    · exact no_twice hok hl1
    · exact no_nest l
    · rfl
    · rfl
    · exact isDealing_noStep (i := 0) rfl rfl
end
end As

namespace As
open PySem PySem.Spec PyProof.Rows L2
abbrev sRefused : Stmt := topS 26
abbrev nRefused : List Str := ["_law_ask", "_law_found", "e"]
theorem scRefused : FnScope nRefused ["_law_ask"] (defScope sRefused) := ⟨rfl, rfl, rfl, by decide +kernel, rfl, by decide +kernel, by decide +kernel⟩
/-- what the asker of a lambda makes of it -/
def TRef (CD : Addr) : (XK → Hp → VK → Prop) → Hp → VK → Prop := fun tl H Q => tl (fun cls d H' => cls = .ref CD ∧ d = none ∧ Q (.bl true) H') H (fun _ H' => Q (.bl false) H')
theorem refused_gives {X : Cx} {CA CD CS : Addr} (T : Txt X.K X.mg CA CD CS) (M : Mg X.mg) {g : Addr} {cdg : Value} {q : Str} :
    LamX.GivesTo X nRefused "_law_refused" (defScope sRefused) g cdg (defBody sRefused) "_law_ask" q (TRef CD) := by
  intro f c' s H Q tl act hc h
  refine ⟨_, pss_cons (ps_set (i := 1) scRefused.nd rfl (.inl rfl) pe_bl)
    (pss_cons (ps_try_as (i := 2) (c := .ref CA)
      (tb := fun W D σ H => ∃ Ech : XK, (∀ cls d σ' H', Ech cls d H' → W cls d σ' H') ∧ σ[0]? = some (some (.ref f)) ∧ H c' = some (LamX.CodeO c' q) ∧ tl Ech H (fun _ H1 => D.nx σ H1))
      (ts := fun a cls d D σ H => cls = .ref CD ∧ d = none ∧ (σ.length = 3 → σ[2]? = some (some (.ref a))) ∧ ∀ σ2, (σ2.length = 3 → σ2[1]? = some (some (.bl true))) → D.nx σ2 H)
      rfl rfl scRefused.nd rfl rfl ⟨by rfl, by decide, .inl T.gA⟩ takes0 (fun W pn xe tk _ => ?_) (fun a oe cls d pn hz hf => ?_))
    (pss_one (show PS _ _ (fun D σ H => (σ.length = 3 → σ[1]? = some (some (.bl true)) ∨ σ[1]? = some (some (.bl false))) ∧ (σ.length = 3 → σ[1]? = some (some (.bl true)) → D.rt (.bl true) H) ∧ (σ.length = 3 → σ[1]? = some (some (.bl false)) → D.rt (.bl false) H)) from ?_))), ?_⟩
  · refine ⟨fun pins s' σ H' D I h' => ?_⟩
    obtain ⟨Ech, hW, h1, h2, h3⟩ := h'
    exact (pss_one (ps_expr (act W pn xe Ech _ _ tk hW))).run pins s' σ H' D I ⟨h1, h2, h3⟩
  · refine ⟨fun pins s' σ H' D I h' => ?_⟩
    obtain ⟨rfl, rfl, h2, h3⟩ := h'
    have hlen : σ.length = 3 := I.len
    have hs2 := h2 hlen
    have isE := call_isE (X := (cxOf C8.CX0 X.prog X.w X.K X.mg X.base nRefused "_law_refused" (defScope sRefused) g cdg X.A X.stack s H C8.E0).nox) (a := a) (pn := pn) (D := CD) T.eC hz hf
    refine (pss_one (ps_set (i := 1) scRefused.nd rfl (.inl rfl) (pe_and (pe_callB isE (by rfl) M.isinstance (by decide +kernel) (pa_cons (pv 2) (pa_cons (pe_glob (v := .ref CD) (by rfl) T.gD rfl) pa_nil)))
      (pe_and (pe_callB isE (by rfl) M.isinstance (by decide +kernel) (pa_cons (pv 2) (pa_cons (pe_bltn (v := .ty "ValueError") (by rfl) T.vE (by decide +kernel) rfl) pa_nil)))
      (pe_one (pe_not (pe_callB isE (by rfl) M.isinstance (by decide +kernel) (pa_cons (pv 2) (pa_cons (pe_glob (v := .ref CS) (by rfl) T.gS rfl) pa_nil))))))))).run pins s' σ H' D I ?_
    refine ⟨.ref a, hs2, .ref CD, .ref CD, true, rfl, fun u r => r, T.iD, _, rfl, iteT ?_⟩
    refine ⟨.ref a, hs2, .ty "ValueError", .type "ValueError", true, rfl, fun u r => r, T.iV, _, rfl, iteT ?_⟩
    refine ⟨.ref a, hs2, .ref CS, .ref CS, false, rfl, fun u r => r, T.iS, _, rfl, ?_⟩
    refine h3 _ fun _ => ?_
    rw [List.getElem?_set_self (by omega)]
    rfl
  · refine ⟨fun pins s' σ H' D I h' => ?_⟩
    obtain ⟨h1, h2, h3⟩ := h'
    have hlen : σ.length = 3 := I.len
    rcases h1 hlen with z | z
    · exact (ps_ret (pv 1)).run pins s' σ H' D I ⟨_, z, h2 hlen z⟩
    · exact (ps_ret (pv 1)).run pins s' σ H' D I ⟨_, z, h3 hlen z⟩
  · refine ⟨fun cls d H' => cls = .ref CD ∧ d = none ∧ Q (.bl true) H', fun cls d σ' H' hE => ?_, rfl, hc, ?_⟩
    · obtain ⟨rfl, rfl, hq⟩ := hE
      refine ⟨true, T.eA, fun _ a na => ⟨rfl, rfl, fun hl => ?_, fun σ2 h2 => ?_⟩, fun z => absurd z.symm Bool.false_ne_true⟩
      · rw [List.length_set] at hl
        exact List.getElem?_set_self (by omega)
      · have key : (σ2.set 2 none).length = 3 → (σ2.set 2 none)[1]? = some (some (.bl true)) := fun hl => by
          rw [List.length_set] at hl
          rw [List.getElem?_set_ne (by decide)]
          exact h2 hl
        exact ⟨fun hl => .inl (key hl), fun _ _ => hq, fun hl z => by
          rw [key hl] at z
          cases z⟩
    · refine Eq.mp (congrArg (tl (fun cls d H' => cls = .ref CD ∧ d = none ∧ Q (.bl true) H') H) (a₁ := fun _ H1 => Q (.bl false) H1) (funext fun v => funext fun H1 => propext ⟨fun hq => ?_, fun hq => ?_⟩)) h
      · exact ⟨fun _ => .inr rfl, fun _ z => (nomatch z), fun _ _ => hq⟩
      · exact hq.2.2 rfl rfl
end As

namespace As
open PySem PySem.Spec PyProof.Rows L2
abbrev sLaw : Stmt := topS 29
abbrev nLaw : List Str := ["_law_script", "_law_k", "_law_state", "_law_few", "_law_dealing_here", "_law_reads", "_law_writes", "_law_due_here", "_law_found", "_law_asks", "_law_odd", "_law_one", "_law_other", "_law_word", "_law_box_here"]
theorem scLaw : FnScope nLaw ["_law_script"] (defScope sLaw) := ⟨rfl, rfl, rfl, by decide +kernel, rfl, by decide +kernel, by decide +kernel⟩
/-! ### heaps, but for the tables of code objects -/
theorem TD.monoN {st : Addr} {H H' : Hp} (e : LamX.ExtN H H') {v : V} {d : D} (h : TD st H v d) : TD st H' v d := by
  refine TD.rec (motive_1 := fun v d _ => TD st H' v d) (motive_2 := fun vs ds _ => TDs st H' vs ds) ?_ ?_ ?_ ?_ ?_ ?_ ?_ ?_ ?_ h
  · exact .non
  · exact fun b => .bl b
  · exact fun i => .int i
  · exact fun z => .str z
  · exact fun n h _ t => .tup n (e _ _ h fun _ z => nomatch z) t
  · exact fun n h _ t => .lst n (e _ _ h fun _ z => nomatch z) t
  · exact fun n h => .dct n (e _ _ h fun _ z => nomatch z)
  · exact .nil
  · exact fun _ _ h t => .cons h t
theorem sqN {K : PySem.W.Frag} {H H' : Hp} {a : Addr} {xs : List V} (e : LamX.ExtN H H') (h : SqL K H a xs) : SqL K H' a xs := by
  rcases h with (h | ⟨o, h⟩) | h
  · exact .inl (.inl (e _ _ h fun _ z => nomatch z))
  · exact .inl (.inr ⟨o, e _ _ h fun _ z => nomatch z⟩)
  · exact .inr h
/-- p is none of what H knows, but for tables -/
def Nn (H : Hp) (p : Addr) : Prop := ∀ b o, H b = some o → (∀ ps, o ≠ .tbl ps) → b ≠ p
theorem nn_of {H H' : Hp} {p : Addr} (e : LamX.ExtN H H') (h : H' p = none) : Nn H p := fun b o hb n => ne_of_none (e b o hb n) h
theorem extN_upd {H H' : Hp} {p : Addr} {o : HO} (n : Nn H p) (e : LamX.ExtN H H') : LamX.ExtN H (upd H' p o) := fun b u hb hn => by
  rw [upd_ne (n b u hb hn)]
  exact e b u hb hn
theorem extN_same {H H1 H2 : Hp} (e : LamX.ExtN H H1) (s : Same H1 H2) : LamX.ExtN H H2 := e.trans (.of s)
theorem tabs_upd {T : List (Addr × Str)} {H : Hp} {p : Addr} {xs ys : List V} (h : H p = some (.lst xs)) (t : LamX.Tabs T H) : LamX.Tabs T (upd H p (.lst ys)) := fun q hq => by
  obtain ⟨ps, h1, h2, h3⟩ := t q hq
  have keep : ∀ b o, H b = some o → (∀ zs, o ≠ .lst zs) → (upd H p (.lst ys)) b = some o := fun b o hb n => by
    rw [upd_ne (fun z => by
      rw [z, h] at hb
      exact n _ (Option.some.inj hb).symm)]
    exact hb
  refine ⟨ps, keep _ _ h1 fun _ z => (nomatch z), h2, fun pos cv hc => ?_⟩
  obtain ⟨c, e1, e2⟩ := h3 pos cv hc
  exact ⟨c, e1, keep _ _ e2 fun zs z => by
    unfold LamX.CodeO at z
    cases z⟩
theorem tabs_well {T : List (Addr × Str)} {H H' : Hp} {st : Addr} (W : Well st H) (e : ExS st H H') (t : LamX.Tabs T H) : LamX.Tabs T H' := fun q hq => by
  obtain ⟨ps, h1, h2, h3⟩ := t q hq
  have keep : ∀ b o, H b = some o → (∀ zs, o ≠ .lst zs) → H' b = some o := fun b o hb n => e b o (fun z => by
    rcases W with ⟨c, h⟩ | ⟨a, b', c, h⟩
    · rw [z, h] at hb
      exact n _ (Option.some.inj hb).symm
    · rw [z, h] at hb
      exact n _ (Option.some.inj hb).symm) hb
  refine ⟨ps, keep _ _ h1 fun _ z => (nomatch z), h2, fun pos cv hc => ?_⟩
  obtain ⟨c, e1, e2⟩ := h3 pos cv hc
  exact ⟨c, e1, keep _ _ e2 fun zs z => by
    unfold LamX.CodeO at z
    cases z⟩
theorem steps_inj : ∀ {l m : List Pr}, l.map stepD = m.map stepD → l = m
  | [], [], _ => rfl
  | [], _ :: _, h => by cases h
  | _ :: _, [], h => by cases h
  | p :: l, q :: m, h => by
    have h1 : stepD p = stepD q := (List.cons.inj h).1
    have h2 := steps_inj (List.cons.inj h).2
    unfold stepD at h1
    have h3 := D.tup.inj h1
    have h4 : p.1 = q.1 := D.str.inj (List.cons.inj h3).1
    have h5 : p.2 = q.2 := D.int.inj (List.cons.inj (List.cons.inj h3).2).1
    rw [h2, show p = q from Prod.ext h4 h5]
theorem dealing_is {l : List Pr} (ok : StepsOk l) (h1 : 1 ≤ l.length) (h8 : l.length ≤ 8) (hf : follow mayP l = true) : isDealing (.tup (l.map stepD)) = true := by
  rw [isDealing_eq, prs_of ok, List.length_map, decide_eq_true h1, decide_eq_true h8]
  exact hf
theorem sq_keep {K : PySem.W.Frag} {st a : Addr} {H H' : Hp} {o : HO} {xs : List V} (h : SqL K H a xs) (n : H st = none) (e : ExS st (upd H st o) H') : SqL K H' a xs := by
  rcases h with (h | ⟨u, h⟩) | h
  · have na : a ≠ st := ne_of_none h n
    exact .inl (.inl (e _ _ na (by rw [upd_ne na]; exact h)))
  · have na : a ≠ st := ne_of_none h n
    exact .inl (.inr ⟨u, e _ _ na (by rw [upd_ne na]; exact h)⟩)
  · exact .inr h
/-- a def as its callers need it -/
structure Ok (P : Program) (w : World) (K : PySem.W.Frag) (mg : Str → Option Value) (base : Heap) (CX : CXT) (k : Nat) (x : Str) (ps : List Str) (sp : Sp) : Prop where
  ex : ∃ f fd, FnOk P w K mg base CX k f fd ps sp ∧ mg x = some (.ref f) ∧ PySem.W.keepIn K (.ref f) = true ∧ Binds K fd ps []
/-- sorted([box for word, box in dealing if word == z]) in the law -/
theorem comp_boxes {K : PySem.W.Frag} {st a : Addr} {H : Hp} {xs : List V} {l : List Pr} {z : Str} {Q : VK} {x0 x1 x2 x3 x5 x6 x7 x8 x9 x10 x11 x12 : Option V} (h : H a = some (.tup xs)) (t : TDs st H xs (l.map stepD)) (hl8 : l.length ≤ 8)
    (q : ∀ (ms : List Int) (p : Addr) (H' : Hp), ms.Perm (bx l z) → ms.Pairwise (· ≤ ·) → H p = none → Same H H' → H' p = some (.lst (ms.map V.int)) → Q (.ref p) H') :
    tCB (rSorted K) (tCons (tLc (iTup K (tVar 4)) (gTup K 2 (gCons (gName 13) (gCons (gName 14) gNil))) (tTest (tOp rEq (tVar 13) (tC (.str z)))) (tVar 14) [13, 14]) tNil) [x0, x1, x2, x3, some (.ref a), x5, x6, x7, x8, x9, x10, x11, x12, none, none] H Q := by
  have hl : xs.length = l.length := by rw [t.length, List.length_map]
  refine ⟨.ref a, rfl, a, rfl, ⟨_, SqT.of h⟩, fun D1 hD1 => lc_kept (walk_tup (xs := xs)) (fun i => decide ((l.getD i (wR, 0)).1 = z)) (fun i => .int (l.getD i (wR, 0)).2) hD1 (by omega) (fun H' e => SqT.of (e _ _ h)) (fun i x H2 H3 N R hi e2 y hN hR => ?_) (fun H2 e2 hL => ?_)⟩
  · obtain ⟨rfl, hx⟩ := y
    obtain ⟨hil, b, rfl, nb, hb⟩ := pr_at t hx
    simp only [getD_at hil] at hN hR
    refine ⟨b, _, rfl, SqT.of (e2 _ _ hb), rfl, .str l[i].1, _, rfl, .int l[i].2, _, rfl, rfl, rfl, .str l[i].1, rfl, rfl, _, rfl, ?_⟩
    rw [decStr]
    exact ite2 (fun e => ⟨.int l[i].2, rfl, hR e _ (Same.refl _)⟩) (fun e => hN (Bool.eq_false_iff.mpr e) _ (Same.refl _))
  · have e1 : kept xs.length (fun i => decide ((l.getD i (wR, 0)).1 = z)) (fun i => V.int (l.getD i (wR, 0)).2) = (bx l z).map V.int := by
      unfold kept bx
      rw [hl, List.map_map]
      exact range_pick l (wR, 0) (fun p => decide (p.1 = z)) (fun p => V.int p.2)
    rw [e1] at hL
    have hb := bx_len l z
    exact ⟨D1, bx l z, rfl, SqL.of hL, by omega, fun ms p hp hs np => q ms p _ hp hs (Same.free e2 np) (Same.new e2 np) upd_same⟩
section
variable {P : Program} {w : World} {K : PySem.W.Frag} {mg : Str → Option Value} {base : Heap} {CA CD CS : Addr}
abbrev tabsOf (pL : Addr) : List (Addr × Str) := [(pL, Str.ofString "law" ++ ".<locals>." ++ "<lambda>")]
def spLaw (K : PySem.W.Frag) (pL : Addr) : Sp := fun vs H Q _ => ∃ (a : Addr) (ns : List Int), vs = [.ref a] ∧ SqL K H a (ns.map V.int) ∧ ns.length ≤ 63 ∧ LamX.Tabs (tabsOf pL) H ∧ ∀ H', Q (.bl true) H'
theorem ok_law {f fR cL pL : Addr} {fdR : FuncData} {k : Nat} {oc kV doc pm ct : Value} {an od : Option Addr} {osl : Array (Option Value)} (lk : K.lookup f = some ⟨oc, od, .func (PySem.W.fnOf "law" "law" (defArgs sLaw) (defBody sLaw) (defScope sLaw) .none kV doc pm an (.ref cL) ct), osl⟩) (hcd : PySem.W.codeIn K (.ref cL) "law" = true)
    (FR : Fun K "_law_refused" "_law_refused" sRefused fR fdR) (gR : mg "_law_refused" = some (.ref fR)) (bR' : Binds K fdR ["_law_ask"] []) (TB : LamX.TabB base mg cL pL) (M : Mg mg) (T : Txt K mg CA CD CS)
    (Kcell : ∀ k, Ok P w K mg base CX0 (k + 1) "_law_cell_at" ["_law_script", "_law_k"] (spCellAt K)) (Kdig : ∀ k, Ok P w K mg base CX0 (k + 1) "_law_digit" ["_law_state", "_law_base"] spDigit) (Kdeal : Ok P w K mg base CX0 (k + 2) "_law_dealing" ["_law_state", "_law_few", "_law_most"] spDealing)
    (Knone : Ok P w K mg base CX0 (k + 2) "_law_none" ["_law_state", "_law_dealing_here"] spNone) (Kdue : Ok P w K mg base CX0 (k + 2) "_law_due" ["_law_one", "_law_other"] spDue) (Kbox : Ok P w K mg base CX0 (k + 2) "_law_boxes" ["_law_found", "_law_due_here"] spBoxes2)
    (Kreads : Ok P w K mg base (L2.CX P w) k "reads_of" ["dealing"] (spTouch CD wR)) (Kwrites : Ok P w K mg base (L2.CX P w) k "writes_of" ["dealing"] (spTouch CD wW)) (Kclash : Ok P w K mg base (L2.CX P w) k "clashes" ["one", "other"] (spClash CD)) :
    FnOk P w K mg base CX0 (k + 3) f (PySem.W.fnOf "law" "law" (defArgs sLaw) (defBody sLaw) (defScope sLaw) .none kV doc pm an (.ref cL) ct) ["_law_script"] (spLaw K pL) := by
  obtain ⟨f1, fd1, G1, g1, k1, b1⟩ := (Kcell (k + 1)).ex
  obtain ⟨f2, fd2, G2, g2, k2, b2⟩ := (Kdig (k + 1)).ex
  obtain ⟨f3, fd3, G3, g3, k3, b3⟩ := Kdeal.ex
  obtain ⟨f4, fd4, G4, g4, k4, b4⟩ := Knone.ex
  obtain ⟨f5, fd5, G5, g5, k5, b5⟩ := Kdue.ex
  obtain ⟨fB, fdB, GB, gB, kB, bB⟩ := Kbox.ex
  obtain ⟨fD, fdD, GD, gD, kD, bD⟩ := Kreads.ex
  obtain ⟨fW, fdW, GW, gW, kW, bW⟩ := Kwrites.ex
  obtain ⟨fC, fdC, GC, gC, kC, bC⟩ := Kclash.ex
  obtain ⟨ocR, odR, kVR, docR, pmR, anR, cdR, ctR, oslR, rfl, lkR, hcR⟩ := FR.ex
  have kR := FR.kp
  have bR := bR'
  refine fn_of lk hcd scLaw (fun vs H Q E h => ?_) (fun A outer s H vs Q E hr h => ?_)
  · obtain ⟨a, ns, rfl, _⟩ := h
    rfl
  · obtain ⟨a, ns, rfl, hS, hlen, tabs, q⟩ := h
    have hr9 := hr
    let Tb := tabsOf pL
    suffices hx : ∃ t, PSs (cxOf CX0 P w K mg base nLaw "law" (defScope sLaw) f (.ref cL) A outer s H E).nox (defBody sLaw) t ∧ t { nx := fun _ H' => Q .non H', rt := Q } (start nLaw [.ref a]) H by
      obtain ⟨t, h1, h2⟩ := hx
      exact ⟨t, h1.nox, h2⟩
    have hrk : Room k (A.deeper (envOfC "law" (defScope sLaw) s.heap.objs.size f (.ref cL))) := hr.mono (by omega)
    refine ⟨_, pss_cons (ps_for PassesOwn.never rfl (pi_range1 (by rfl) M.range (pa_cons (pe_callB (call_max2 rfl) (by rfl) M.max (by decide +kernel) (pa_cons pe_int (pa_cons (pe_callB (call_min2 rfl) (by rfl) M.min (by decide +kernel) (pa_cons pe_int (pa_cons (pe_callB call_len_seq (by rfl) M.len PySem.boot_len (pa_cons (pv 0) pa_nil)) pa_nil))) pa_nil))) pa_nil)) (pg_name (i := 1) scLaw.nd rfl (.inl rfl))
        (pss_cons (ps_set (i := 2) scLaw.nd rfl (.inl rfl) (pe_lst (pa_cons (pe_add (pe_call G1 hr9 (by rfl) g1 k1 b1 .nil pass0 (pa_cons (pv 0) (pa_cons (pv 1) pa_nil))) (pe_op op_mul pe_int (pv 1))) pa_nil)))
        (pss_cons (ps_set (i := 3) scLaw.nd rfl (.inl rfl) (pe_add pe_int (pe_call G2 hr9 (by rfl) g2 k2 b2 .nil pass0 (pa_cons (pv 2) (pa_cons pe_int pa_nil)))))
        (pss_cons (ps_set (i := 11) scLaw.nd rfl (.inr rfl) (pe_call G3 hr9 (by rfl) g3 k3 b3 .nil pass0 (pa_cons (pv 2) (pa_cons (pv 3) (pa_cons pe_int pa_nil)))))
        (pss_cons (ps_set (i := 12) scLaw.nd rfl (.inr rfl) (pe_call G3 hr9 (by rfl) g3 k3 b3 .nil pass0 (pa_cons (pv 2) (pa_cons (pv 3) (pa_cons pe_int pa_nil)))))
        (pss_cons (ps_set (i := 10) scLaw.nd rfl (.inr rfl) (pe_call G4 hr9 (by rfl) g4 k4 b4 .nil pass0 (pa_cons (pv 2) (pa_cons (pv 11) pa_nil))))
        (pss_cons (ps_for PassesOwn.never rfl (pi_list (pe_lst (pa_cons (pv 11) (pa_cons (pv 12) (pa_cons (pv 11) (pa_cons (pv 12) pa_nil)))))) (pg_name (i := 4) scLaw.nd rfl (.inl rfl))
        (pss_cons (ps_set (i := 5) scLaw.nd rfl (.inl rfl) (pe_call GD hrk (by rfl) gD kD bD .nil passL (pa_cons (pv 4) pa_nil)))
        (pss_cons (ps_set (i := 6) scLaw.nd rfl (.inl rfl) (pe_call GW hrk (by rfl) gW kW bW .nil passL (pa_cons (pv 4) pa_nil)))
        (pss_cons (ps_if (pt_not (pt_val (pe_call GB hr9 (by rfl) gB kB bB .nil pass0 (pa_cons (pv 5) (pa_cons (pe_callB cr_sorted (by rfl) M.sorted (by decide +kernel) (pa_cons (pe_lc (own := [("_law_word", 13), ("_law_box_here", 14)]) (g := gTup K 2 (gCons (gName 13) (gCons (gName 14) gNil))) (tt := tTest (tOp rEq (tVar 13) (tC (.str "read")))) (by rfl) scLaw.nd (pi_tup (pv 4)) (blkOk_by (own := [("_law_word", 13), ("_law_box_here", 14)]) (N := nLaw) (sc := defScope sLaw) (by decide +kernel)) (fun _ _ _ _ _ => pg_tup rfl (pgs_cons (pg_name (i := 13) scLaw.nd rfl (Or.inl rfl)) (pgs_cons (pg_name (i := 14) scLaw.nd rfl (Or.inl rfl)) pgs_nil))) (fun _ _ _ _ _ => pts_one (pt_cmpR op_eq (pv 13) pe_str (nomark _))) (fun _ _ _ _ _ => pv 14)) pa_nil)) pa_nil))))) (pss_one (ps_ret pe_bl)) pss_nil)
        (pss_cons (ps_if (pt_not (pt_val (pe_call GB hr9 (by rfl) gB kB bB .nil pass0 (pa_cons (pv 6) (pa_cons (pe_callB cr_sorted (by rfl) M.sorted (by decide +kernel) (pa_cons (pe_lc (own := [("_law_word", 13), ("_law_box_here", 14)]) (g := gTup K 2 (gCons (gName 13) (gCons (gName 14) gNil))) (tt := tTest (tOp rEq (tVar 13) (tC (.str "write")))) (by rfl) scLaw.nd (pi_tup (pv 4)) (blkOk_by (own := [("_law_word", 13), ("_law_box_here", 14)]) (N := nLaw) (sc := defScope sLaw) (by decide +kernel)) (fun _ _ _ _ _ => pg_tup rfl (pgs_cons (pg_name (i := 13) scLaw.nd rfl (Or.inl rfl)) (pgs_cons (pg_name (i := 14) scLaw.nd rfl (Or.inl rfl)) pgs_nil))) (fun _ _ _ _ _ => pts_one (pt_cmpR op_eq (pv 13) pe_str (nomark _))) (fun _ _ _ _ _ => pv 14)) pa_nil)) pa_nil))))) (pss_one (ps_ret pe_bl)) pss_nil)
        (pss_cons (ps_expr (pe_bm PySem.F.plainAttrs_list PySem.F.slot_list_append PySem.F.type_list_append mt_append (pv 5) (pa_cons pe_int pa_nil)))
        (pss_one (ps_expr (pe_bm0 PySem.F.plainAttrs_list PySem.F.slot_list_clear PySem.F.type_list_clear mt_clear (pv 6))))))))))
        (pss_cons (ps_set (i := 7) scLaw.nd rfl (.inl rfl) (pe_call G5 hr9 (by rfl) g5 k5 b5 .nil pass0 (pa_cons (pv 11) (pa_cons (pv 12) pa_nil))))
        (pss_cons (ps_set (i := 8) scLaw.nd rfl (.inl rfl) (pe_call GC hrk (by rfl) gC kC bC .nil passL (pa_cons (pv 11) (pa_cons (pv 12) pa_nil))))
        (pss_cons (ps_if (PW.pt (pw_or (pt_not (pt_val (pe_call GB hr9 (by rfl) gB kB bB .nil pass0 (pa_cons (pv 8) (pa_cons (pv 7) pa_nil))))) (pw_or1 (pt_not (pt_val (pe_call GB hr9 (by rfl) gB kB bB .nil pass0 (pa_cons (pe_call GC hrk (by rfl) gC kC bC .nil passL (pa_cons (pv 12) (pa_cons (pv 11) pa_nil))) (pa_cons (pv 7) pa_nil)))))))) (pss_one (ps_ret pe_bl)) pss_nil)
        (pss_cons (ps_expr (pe_bm PySem.F.plainAttrs_list PySem.F.slot_list_append PySem.F.type_list_append mt_append (pv 8) (pa_cons pe_int pa_nil)))
        (pss_cons (ps_if (pt_not (pt_val (pe_call GB hr9 (by rfl) gB kB bB .nil pass0 (pa_cons (pe_call GC hrk (by rfl) gC kC bC .nil passL (pa_cons (pv 11) (pa_cons (pv 12) pa_nil))) (pa_cons (pv 7) pa_nil))))) (pss_one (ps_ret pe_bl)) pss_nil)
        (pss_cons (ps_set (i := 9) scLaw.nd rfl (.inl rfl) (pe_lst (pa_cons (LamX.pe_lamcall (T := Tb) (TT := TRef CD) (a := "_law_ask") (k := k) (c := cL) (P := pL) (Ng := nRefused) (t := fun E => tCall (spTouch CD wR) [] E (tCons (tVar 10) tNil)) (by rfl) gR kR lkR hcR bR scRefused rfl (.inl rfl) (refused_gives T M) TB rfl (List.mem_singleton.mpr rfl) (fun p hp _ => by rw [List.mem_singleton.mp hp]; rfl) hr (LamX.lamS_by (sc := defScope sLaw) (by decide +kernel)) rfl (fun _ _ _ _ _ => rfl) (fun A outer s H E f c2 hr2 => pe_call (E := E) GD hr2 (by rfl) gD kD bD .nil (passes_call (takes_of rfl rfl rfl rfl) (fun _ _ _ _ h => h)) (pa_cons (pv 10) pa_nil))) pa_nil)))
        (pss_cons (ps_expr (pe_bm PySem.F.plainAttrs_list PySem.F.slot_list_append PySem.F.type_list_append mt_append (pv 9) (pa_cons (LamX.pe_lamcall (T := Tb) (TT := TRef CD) (a := "_law_ask") (k := k) (c := cL) (P := pL) (Ng := nRefused) (t := fun E => tCall (spTouch CD wW) [] E (tCons (tVar 10) tNil)) (by rfl) gR kR lkR hcR bR scRefused rfl (.inl rfl) (refused_gives T M) TB rfl (List.mem_singleton.mpr rfl) (fun p hp _ => by rw [List.mem_singleton.mp hp]; rfl) hr (LamX.lamS_by (sc := defScope sLaw) (by decide +kernel)) rfl (fun _ _ _ _ _ => rfl) (fun A outer s H E f c2 hr2 => pe_call (E := E) GW hr2 (by rfl) gW kW bW .nil (passes_call (takes_of rfl rfl rfl rfl) (fun _ _ _ _ h => h)) (pa_cons (pv 10) pa_nil))) pa_nil)))
        (pss_cons (ps_expr (pe_bm PySem.F.plainAttrs_list PySem.F.slot_list_append PySem.F.type_list_append mt_append (pv 9) (pa_cons (LamX.pe_lamcall (T := Tb) (TT := TRef CD) (a := "_law_ask") (k := k) (c := cL) (P := pL) (Ng := nRefused) (t := fun E => tCall (spClash CD) [] E (tCons (tVar 10) (tCons (tVar 12) tNil))) (by rfl) gR kR lkR hcR bR scRefused rfl (.inl rfl) (refused_gives T M) TB rfl (List.mem_singleton.mpr rfl) (fun p hp _ => by rw [List.mem_singleton.mp hp]; rfl) hr (LamX.lamS_by (sc := defScope sLaw) (by decide +kernel)) rfl (fun _ _ _ _ _ => rfl) (fun A outer s H E f c2 hr2 => pe_call (E := E) GC hr2 (by rfl) gC kC bC .nil (passes_call (takes_of rfl rfl rfl rfl) (fun _ _ _ _ h => h)) (pa_cons (pv 10) (pa_cons (pv 12) pa_nil)))) pa_nil)))
        (pss_cons (ps_expr (pe_bm PySem.F.plainAttrs_list PySem.F.slot_list_append PySem.F.type_list_append mt_append (pv 9) (pa_cons (LamX.pe_lamcall (T := Tb) (TT := TRef CD) (a := "_law_ask") (k := k) (c := cL) (P := pL) (Ng := nRefused) (t := fun E => tCall (spClash CD) [] E (tCons (tVar 11) (tCons (tVar 10) tNil))) (by rfl) gR kR lkR hcR bR scRefused rfl (.inl rfl) (refused_gives T M) TB rfl (List.mem_singleton.mpr rfl) (fun p hp _ => by rw [List.mem_singleton.mp hp]; rfl) hr (LamX.lamS_by (sc := defScope sLaw) (by decide +kernel)) rfl (fun _ _ _ _ _ => rfl) (fun A outer s H E f c2 hr2 => pe_call (E := E) GC hr2 (by rfl) gC kC bC .nil (passes_call (takes_of rfl rfl rfl rfl) (fun _ _ _ _ h => h)) (pa_cons (pv 11) (pa_cons (pv 10) pa_nil)))) pa_nil)))
        (pss_cons (ps_expr (pe_bm PySem.F.plainAttrs_list PySem.F.slot_list_append PySem.F.type_list_append mt_append (pv 9) (pa_cons (LamX.pe_lamcall (T := Tb) (TT := TRef CD) (a := "_law_ask") (k := k) (c := cL) (P := pL) (Ng := nRefused) (t := fun E => tCall (spClash CD) [] E (tCons (tVar 10) (tCons (tVar 10) tNil))) (by rfl) gR kR lkR hcR bR scRefused rfl (.inl rfl) (refused_gives T M) TB rfl (List.mem_singleton.mpr rfl) (fun p hp _ => by rw [List.mem_singleton.mp hp]; rfl) hr (LamX.lamS_by (sc := defScope sLaw) (by decide +kernel)) rfl (fun _ _ _ _ _ => rfl) (fun A outer s H E f c2 hr2 => pe_call (E := E) GC hr2 (by rfl) gC kC bC .nil (passes_call (takes_of rfl rfl rfl rfl) (fun _ _ _ _ h => h)) (pa_cons (pv 10) (pa_cons (pv 10) pa_nil)))) pa_nil)))
        (pss_one (ps_if (pt_cmpR (op_neD hr9.units) (pv 9) (pe_op op_rep (pe_lst (pa_cons pe_bl pa_nil)) pe_int) (nomark _)) (pss_one (ps_ret pe_bl)) pss_nil)))))))))))))))))))
      (pss_one (ps_ret pe_bl)), ?_⟩
    refine ⟨.ref a, rfl, a, _, rfl, .inl hS, 16, _, rfl, 1, _, rfl, _, rfl, ?_, ?_, ?_⟩
    · split <;> split <;> omega
    · rw [List.length_map]
      split <;> split <;> omega
    refine for_range (lo := 0) (fun i σ H' => ∃ y1 y2 y3 y4 y5 y6 y7 y8 y9 y10 y11 y12, σ = [some (.ref a), y1, y2, y3, y4, y5, y6, y7, y8, y9, y10, y11, y12, none, none] ∧ SqL K H' a (ns.map V.int) ∧ LamX.Tabs Tb H') ⟨_, _, _, _, _, _, _, _, _, _, _, _, rfl, hS, tabs⟩ (fun i σ H0 hi hP => ?_) (fun σ H0 hP => q H0)
    obtain ⟨y1, y2, y3, y4, y5, y6, y7, y8, y9, y10, y11, y12, rfl, hS0, tabs0⟩ := hP
    -- the state
    refine ⟨.ref a, rfl, .int (0 + (i : Nat)), rfl, a, i, ns, (by show [V.ref a, V.int ((0 : Int) + ((i : Nat) : Int))] = [V.ref a, V.int ((i : Nat) : Int)]; rw [Int.zero_add]), hS0, fun z => ⟨.int (0 + (i : Nat)), rfl, 19, _, rfl, rfl, .inl ⟨by decide, by decide⟩, z, _, rfl, rfl, by show 1 ≤ sizeLine; decide, fun st nst => ?_⟩⟩
    have tb0 : LamX.Tabs Tb (upd H0 st (.lst [.int (z + 19 * (0 + (i : Nat)))])) := tabs0.ext (same_new nst)
    have W0 : Well st (upd H0 st (.lst [.int (z + 19 * (0 + (i : Nat)))])) := .inl ⟨_, upd_same⟩
    -- few
    refine ⟨.ref st, rfl, st, 6, rfl, W0, by decide, by decide, fun r H1 r0 r1 W1 e1 => ⟨1, r, rfl, rfl, ?_⟩⟩
    -- one, other, odd
    refine ⟨.ref st, rfl, .int (1 + r), rfl, st, 1 + r, 8, rfl, W1, by omega, by omega, by decide, by decide, fun v l H2 tdv l1 l8 okl fl W2 e2 => ?_⟩
    refine ⟨.ref st, rfl, .int (1 + r), rfl, st, 1 + r, 8, rfl, W2, by omega, by omega, by decide, by decide, fun u m H3 tdu m1 m8 okm fm W3 e3 => ?_⟩
    refine ⟨.ref st, rfl, v, rfl, st, v, l, rfl, W3, tdv.mono e3, l1, l8, okl, fun o dO HB tO nO WB eB => ?_⟩
    have tbB : LamX.Tabs Tb HB := tabs_well W3 eB (tabs_well W2 e3 (tabs_well W1 e2 (tabs_well W0 e1 tb0)))
    have sB : SqL K HB a (ns.map V.int) := sq_keep hS0 nst (e1.trans (e2.trans (e3.trans eB)))
    have tv := (tdv.mono e3).mono eB
    have tu := tdu.mono eB
    have isv := dealing_is okl l1 l8 fl
    have isu := dealing_is okm m1 m8 fm
    have no : ∀ {d : D} {X : Prop}, isDealing d = true → isDealing d = false → X := fun h1 h2 => absurd (h1.symm.trans h2) (by decide)
    clear tabs0 tb0 W0 tdv tdu e1 e2 e3 eB W1 W2 W3 WB
    -- the boxes of each
    refine ⟨v, rfl, u, rfl, v, rfl, u, rfl, by show 4 ≤ sizeLine; decide, fun c nc => ⟨c, rfl, ⟨_, SqL.of upd_same⟩, ?_⟩⟩
    refine for_list (xs := [v, u, v, u]) (fun j σ H' => ∃ z4 z5 z6, σ = [some (.ref a), some (.int (0 + (i : Nat))), some (.ref st), some (.int (1 + r)), z4, z5, z6, y7, y8, y9, some o, some v, some u, none, none] ∧ Same (upd HB c (.lst [v, u, v, u])) H') ⟨_, _, _, rfl, Same.refl _⟩ (fun j σ H' _ hP => ?_) (fun j x σ H4 hx hP => ?_) (fun σ H4 hP => ?_)
    · obtain ⟨_, _, _, _, e⟩ := hP
      exact SqL.of (e _ _ upd_same)
    · obtain ⟨z4, z5, z6, rfl, e4⟩ := hP
      have eB4 : Same HB H4 := Same.trans (same_new nc) e4
      obtain ⟨lx, tx, lx8, isx⟩ : ∃ lx : List Pr, TD st H4 x (.tup (lx.map stepD)) ∧ lx.length ≤ 8 ∧ isDealing (.tup (lx.map stepD)) = true := by
        match j, hx with
        | 0, hx => exact ⟨l, by rw [← Option.some.inj hx]; exact tv.mono (.of eB4), l8, isv⟩
        | 1, hx => exact ⟨m, by rw [← Option.some.inj hx]; exact tu.mono (.of eB4), m8, isu⟩
        | 2, hx => exact ⟨l, by rw [← Option.some.inj hx]; exact tv.mono (.of eB4), l8, isv⟩
        | 3, hx => exact ⟨m, by rw [← Option.some.inj hx]; exact tu.mono (.of eB4), m8, isu⟩
        | j + 4, hx => cases hx
      cases tx with
      | @tup ax xx _ nx hax ttx =>
      have tx : TD st H4 (.ref ax) (.tup (lx.map stepD)) := .tup nx hax ttx
      refine ⟨.ref ax, rfl, st, .ref ax, _, rfl, tx, fun _ l2 ms p H5 el hp hs np e5 hL5 => ?_, fun hf => no isx hf⟩
      have el' := steps_inj (D.tup.inj el)
      subst el'
      refine ⟨.ref ax, rfl, st, .ref ax, _, rfl, tx.mono (.of e5), fun _ l3 ms2 p2 H6 el2 hp2 hs2 np2 e6 hL6 => ?_, fun hf => no isx hf⟩
      have el2' := steps_inj (D.tup.inj el2)
      subst el2'
      have e46 := Same.trans e5 e6
      have hbl := bx_len lx wR
      have hbw := bx_len lx wW
      refine ⟨.ref p, rfl, ?_⟩
      refine comp_boxes (e46 _ _ hax) (ttx.mono (.of e46)) lx8 fun ms3 p3 H7 hp3 hs3 np3 e7 hL7 => ?_
      refine ⟨p, p3, ms, rfl, e7 _ _ (e6 _ _ hL5), by rw [PySem.W.ksm_same (hp.trans hp3.symm) hs hs3]; exact hL7, by rw [hp.length_eq]; omega, fun H8 e8 => ⟨_, rfl, iteF ?_⟩⟩
      have e48 := Same.trans e46 (Same.trans e7 e8)
      refine ⟨.ref p2, rfl, ?_⟩
      refine comp_boxes (e48 _ _ hax) (ttx.mono (.of e48)) lx8 fun ms4 p4 H9 hp4 hs4 np4 e9 hL9 => ?_
      refine ⟨p2, p4, ms2, rfl, e9 _ _ (e8 _ _ (e7 _ _ hL6)), by rw [PySem.W.ksm_same (hp2.trans hp4.symm) hs2 hs4]; exact hL9, by rw [hp2.length_eq]; omega, fun H10 e10 => ⟨_, rfl, iteF ?_⟩⟩
      have e6_10 := Same.trans e7 (Same.trans e8 (Same.trans e9 e10))
      have hp10 := e6_10 _ _ (e6 _ _ hL5)
      have hp2_10 := e6_10 _ _ hL6
      have npp : p2 ≠ p := (ne_of_none hL5 np2).symm
      refine ⟨.ref p, rfl, .inl ⟨rfl, _, SqL.of hp10⟩, p, _, .int 7, rfl, rfl, hp10, sl_lt (by rw [List.length_map, hp.length_eq]; omega), ?_⟩
      have hp2_11 : (upd H10 p (.lst (ms.map V.int ++ [.int 7]))) p2 = some (.lst (ms2.map V.int)) := by
        rw [upd_ne npp]
        exact hp2_10
      refine ⟨.ref p2, rfl, .inl ⟨rfl, _, SqL.of hp2_11⟩, p2, _, rfl, rfl, hp2_11, ?_⟩
      have e410 := Same.trans e46 e6_10
      exact ⟨_, _, _, rfl, Same.trans e4 (Same.mut (Same.mut e410 np) (Same.free e5 np2))⟩
    obtain ⟨z4, z5, z6, rfl, e4⟩ := hP
    have eB4 : Same HB H4 := Same.trans (same_new nc) e4
    have tv4 := tv.mono (.of eB4)
    have tu4 := tu.mono (.of eB4)
    -- due, found
    refine ⟨v, rfl, u, rfl, st, v, u, l, m, rfl, tv4, tu4, l8, m8, fm, okm, fun nsd pd H5 hsd hmd hld npd e5 hL5 => ?_⟩
    refine ⟨v, rfl, u, rfl, st, v, u, _, _, rfl, tv4.mono (.of e5), tu4.mono (.of e5), fun _ _ l2 m2 ns2 pf H6 el em hs2 hm2 hl2 npf e6 hL6 => ?_, fun hf => no isv hf, fun _ hf => no isu hf⟩
    have el' := steps_inj (D.tup.inj el)
    have em' := steps_inj (D.tup.inj em)
    subst el' em'
    have en2 : ns2 = nsd := rise_same hs2 hsd fun k => (hm2 k).trans (hmd k).symm
    subst en2
    refine ⟨.ref pf, rfl, .ref pd, rfl, pf, pd, ns2, rfl, hL6, e6 _ _ hL5, by omega, fun H7 e7 => ⟨_, rfl, iteF ?_⟩⟩
    have e47 := Same.trans e5 (Same.trans e6 e7)
    refine ⟨u, rfl, v, rfl, st, u, v, _, _, rfl, tu4.mono (.of e47), tv4.mono (.of e47), fun _ _ l2 m2 ns3 pg H8 el em hs3 hm3 hl3 npg e8 hL8 => ?_, fun hf => no isu hf, fun _ hf => no isv hf⟩
    have el' := steps_inj (D.tup.inj el)
    have em' := steps_inj (D.tup.inj em)
    subst el' em'
    have en3 : ns3 = ns2 := rise_same hs3 hsd fun k => (hm3 k).trans (cl_swap.trans (hmd k).symm)
    subst en3
    refine ⟨.ref pd, rfl, pg, pd, ns3, rfl, hL8, e8 _ _ (e7 _ _ (e6 _ _ hL5)), by omega, fun H9 e9 => ⟨_, rfl, iteF ?_⟩⟩
    have hpf := e9 _ _ (e8 _ _ (e7 _ _ hL6))
    have e59 := Same.trans e6 (Same.trans e7 (Same.trans e8 e9))
    -- found.append(7)
    refine ⟨.ref pf, rfl, .inl ⟨rfl, _, SqL.of hpf⟩, pf, _, .int 7, rfl, rfl, hpf, sl_lt (by rw [List.length_map]; omega), ?_⟩
    have e5_10 : Same H5 (upd H9 pf (.lst (ns3.map V.int ++ [.int 7]))) := Same.mut e59 npf
    have e4_10 := Same.trans e5 e5_10
    refine ⟨v, rfl, u, rfl, st, v, u, _, _, rfl, tv4.mono (.of e4_10), tu4.mono (.of e4_10), fun _ _ l2 m2 ns4 ph H11 el em hs4 hm4 hl4 nph e11 hL11 => ?_, fun hf => no isv hf, fun _ hf => no isu hf⟩
    have el' := steps_inj (D.tup.inj el)
    have em' := steps_inj (D.tup.inj em)
    subst el' em'
    have en4 : ns4 = ns3 := rise_same hs4 hsd fun k => (hm4 k).trans (hmd k).symm
    subst en4
    refine ⟨.ref pd, rfl, ph, pd, ns4, rfl, hL11, e11 _ _ (e5_10 _ _ hL5), by omega, fun HX e12 => ⟨_, rfl, iteF ?_⟩⟩
    have eX : Same HB HX := Same.trans eB4 (Same.trans e4_10 (Same.trans e11 e12))
    have tbX : LamX.Tabs Tb HX := tbB.ext eX
    have sX : SqL K HX a (ns.map V.int) := eX.seq sB
    have tvX := tv.mono (.of eX)
    have tuX := tu.mono (.of eX)
    have tOX := tO.mono (.of eX)
    -- the asks
    refine ⟨tbX, fun G1 n1 t1 => ⟨o, rfl, st, o, dO, rfl, tOX.monoN n1, fun hf => no hf nO, fun _ G2 s2 => ⟨rfl, rfl, by show 1 ≤ sizeLine; decide, fun pa npa => ?_⟩⟩⟩
    have a2 : LamX.ExtN HX G2 := extN_same n1 s2
    have nn : Nn HX pa := nn_of a2 npa
    have a3 : LamX.ExtN HX (upd G2 pa (.lst [.bl true])) := extN_upd nn a2
    have t3 : LamX.Tabs Tb (upd G2 pa (.lst [.bl true])) := (t1.ext s2).ext (same_new npa)
    -- the second
    refine ⟨.ref pa, rfl, .inl ⟨rfl, _, SqL.of upd_same⟩, t3, fun G4 n4 t4 => ⟨o, rfl, st, o, dO, rfl, tOX.monoN (a3.trans n4), fun hf => no hf nO, fun _ G5 s5 => ⟨rfl, rfl, ?_⟩⟩⟩
    have h5 : G5 pa = some (.lst [.bl true]) := s5 _ _ (n4 _ _ upd_same fun _ z => nomatch z)
    refine ⟨pa, _, .bl true, rfl, rfl, h5, by show 1 < sizeLine; decide, ?_⟩
    have a6 : LamX.ExtN HX (upd G5 pa (.lst [.bl true, .bl true])) := extN_upd nn (extN_same (a3.trans n4) s5)
    have t6 : LamX.Tabs Tb (upd G5 pa (.lst [.bl true, .bl true])) := tabs_upd h5 (t4.ext s5)
    -- the third
    refine ⟨.ref pa, rfl, .inl ⟨rfl, _, SqL.of upd_same⟩, t6, fun G7 n7 t7 => ⟨o, rfl, u, rfl, st, o, u, dO, _, rfl, tOX.monoN (a6.trans n7), tuX.monoN (a6.trans n7), fun hf => no hf nO, fun _ G8 s8 => ⟨rfl, rfl, ?_⟩, fun hf => no hf nO⟩⟩
    have h8 : G8 pa = some (.lst [.bl true, .bl true]) := s8 _ _ (n7 _ _ upd_same fun _ z => nomatch z)
    refine ⟨pa, _, .bl true, rfl, rfl, h8, by show 2 < sizeLine; decide, ?_⟩
    have a9 : LamX.ExtN HX (upd G8 pa (.lst [.bl true, .bl true, .bl true])) := extN_upd nn (extN_same (a6.trans n7) s8)
    have t9 : LamX.Tabs Tb (upd G8 pa (.lst [.bl true, .bl true, .bl true])) := tabs_upd h8 (t7.ext s8)
    -- the fourth
    refine ⟨.ref pa, rfl, .inl ⟨rfl, _, SqL.of upd_same⟩, t9, fun GA nA tA => ⟨v, rfl, o, rfl, st, v, o, _, dO, rfl, tvX.monoN (a9.trans nA), tOX.monoN (a9.trans nA), fun _ hf => no hf nO, fun hf => no isv hf, fun _ _ GB' sB' => ⟨rfl, rfl, ?_⟩⟩⟩
    have hB : GB' pa = some (.lst [.bl true, .bl true, .bl true]) := sB' _ _ (nA _ _ upd_same fun _ z => nomatch z)
    refine ⟨pa, _, .bl true, rfl, rfl, hB, by show 3 < sizeLine; decide, ?_⟩
    have aC : LamX.ExtN HX (upd GB' pa (.lst [.bl true, .bl true, .bl true, .bl true])) := extN_upd nn (extN_same (a9.trans nA) sB')
    have tC' : LamX.Tabs Tb (upd GB' pa (.lst [.bl true, .bl true, .bl true, .bl true])) := tabs_upd hB (tA.ext sB')
    -- the fifth
    refine ⟨.ref pa, rfl, .inl ⟨rfl, _, SqL.of upd_same⟩, tC', fun GE nE tE => ⟨o, rfl, o, rfl, st, o, o, dO, dO, rfl, tOX.monoN (aC.trans nE), tOX.monoN (aC.trans nE), fun hf => no hf nO, fun _ GF sF => ⟨rfl, rfl, ?_⟩, fun hf => no hf nO⟩⟩
    have hF : GF pa = some (.lst [.bl true, .bl true, .bl true, .bl true]) := sF _ _ (nE _ _ upd_same fun _ z => nomatch z)
    refine ⟨pa, _, .bl true, rfl, rfl, hF, by show 4 < sizeLine; decide, ?_⟩
    have aG : LamX.ExtN HX (upd GF pa (.lst [.bl true, .bl true, .bl true, .bl true, .bl true])) := extN_upd nn (extN_same (aC.trans nE) sF)
    have tG : LamX.Tabs Tb (upd GF pa (.lst [.bl true, .bl true, .bl true, .bl true, .bl true])) := tabs_upd hF (tE.ext sF)
    -- asks != [True] * 5
    refine ⟨.ref pa, rfl, by show 1 ≤ sizeLine; decide, fun ca na => ⟨ca, 5, [.bl true], rfl, rfl, upd_same, by decide, by decide, by show 5 ≤ sizeLine; decide, fun cb nb => ?_⟩⟩
    have sH := Same.trans (same_new (o := .lst [.bl true]) na) (same_new (o := .lst (List.replicate (5 : Int).toNat [V.bl true]).flatten) nb)
    refine ⟨.list ([true, true, true, true, true].map PyData.bool), .list ([true, true, true, true, true].map PyData.bool), .lst (SqL.of (sH _ _ upd_same)) (dp_bools [true, true, true, true, true]), .lst (SqL.of upd_same) (dp_bools [true, true, true, true, true]), shaped_of (lay_bools _) (depth_bools _), shaped_of (lay_bools _) (depth_bools _), _, rfl, ?_⟩
    rw [SeqAt.eqv_refl _ (by simp only [PyData.canLay0]; exact lay_bools _)]
    exact iteF ⟨_, _, _, _, _, _, _, _, _, _, _, _, rfl, sqN (extN_same aG sH) sX, tG.ext sH⟩
end
end As

namespace As
open PySem PySem.Spec PyProof.Rows L2
/-! ### what the top has written; the end -/
theorem all_mk {l : PySem.W.OpenLaw} {w : World} {K : PySem.W.Frag} {h : Heap} {mg : Str → Option Value} {fa : Addr} (X : K.In h) (G : h.Ns mainGlobals mg) (hfa : mg "law" = some (.ref fa))
    {f1 f2 f3 f4 f5 f6 f7 f8 f9 f10 f11 f12 f13 f14 f15 f16 f17 f18 f19 f20 f21 CA CD CS cL pL : Addr} {od1 an1 od2 an2 od3 an3 od4 an4 od5 an5 od6 an6 od7 an7 od8 an8 od9 an9 od10 an10 od11 an11 od12 an12 od13 an13 od14 an14 od15 an15 od16 an16 od17 an17 od18 an18 od19 an19 od20 an20 od21 an21 : Option Addr} {sl1 sl2 sl3 sl4 sl5 sl6 sl7 sl8 sl9 sl10 sl11 sl12 sl13 sl14 sl15 sl16 sl17 sl18 sl19 sl20 sl21 : Array (Option Value)} {oc1 kV1 dc1 pm1 ct1 cd1 oc2 kV2 dc2 pm2 ct2 cd2 oc3 kV3 dc3 pm3 ct3 cd3 oc4 kV4 dc4 pm4 ct4 cd4 oc5 kV5 dc5 pm5 ct5 cd5 oc6 kV6 dc6 pm6 ct6 cd6 oc7 kV7 dc7 pm7 ct7 cd7 oc8 kV8 dc8 pm8 ct8 cd8 oc9 kV9 dc9 pm9 ct9 cd9 oc10 kV10 dc10 pm10 ct10 cd10 oc11 kV11 dc11 pm11 ct11 cd11 oc12 kV12 dc12 pm12 ct12 cd12 oc13 kV13 dc13 pm13 ct13 cd13 oc14 kV14 dc14 pm14 ct14 cd14 oc15 kV15 dc15 pm15 ct15 cd15 oc16 kV16 dc16 pm16 ct16 cd16 oc17 kV17 dc17 pm17 ct17 cd17 oc18 kV18 dc18 pm18 ct18 cd18 oc19 kV19 dc19 pm19 ct19 cd19 oc20 kV20 dc20 pm20 ct20 cd20 oc21 kV21 dc21 pm21 ct21 : Value} {t1 t2 : Tok}
    (a1 : PySem.W.nsIn K mainGlobals "is_whole" = some (some (.ref f1))) (l1 : K.lookup f1 = some ⟨oc1, od1, .func (PySem.W.fnOf "is_whole" "is_whole" (defArgs sIsWhole) (defBody sIsWhole) (defScope sIsWhole) .none kV1 dc1 pm1 an1 cd1 ct1), sl1⟩) (c1 : PySem.W.codeIn K cd1 "is_whole" = true) (k1 : PySem.W.keepIn K (.ref f1) = true)
    (a2 : PySem.W.nsIn K mainGlobals "is_number" = some (some (.ref f2))) (l2 : K.lookup f2 = some ⟨oc2, od2, .func (PySem.W.fnOf "is_number" "is_number" (defArgs sIsNumber) (defBody sIsNumber) (defScope sIsNumber) .none kV2 dc2 pm2 an2 cd2 ct2), sl2⟩) (c2 : PySem.W.codeIn K cd2 "is_number" = true) (k2 : PySem.W.keepIn K (.ref f2) = true)
    (a3 : PySem.W.nsIn K mainGlobals "is_box" = some (some (.ref f3))) (l3 : K.lookup f3 = some ⟨oc3, od3, .func (PySem.W.fnOf "is_box" "is_box" (defArgs sIsBox) (defBody sIsBox) (defScope sIsBox) .none kV3 dc3 pm3 an3 cd3 ct3), sl3⟩) (c3 : PySem.W.codeIn K cd3 "is_box" = true) (k3 : PySem.W.keepIn K (.ref f3) = true)
    (a4 : PySem.W.nsIn K mainGlobals "is_one_of" = some (some (.ref f4))) (l4 : K.lookup f4 = some ⟨oc4, od4, .func (PySem.W.fnOf "is_one_of" "is_one_of" (defArgs sIsOneOf) (defBody sIsOneOf) (defScope sIsOneOf) .none kV4 dc4 pm4 an4 cd4 ct4), sl4⟩) (c4 : PySem.W.codeIn K cd4 "is_one_of" = true) (k4 : PySem.W.keepIn K (.ref f4) = true)
    (a5 : PySem.W.nsIn K mainGlobals "is_step" = some (some (.ref f5))) (l5 : K.lookup f5 = some ⟨oc5, od5, .func (PySem.W.fnOf "is_step" "is_step" (defArgs sIsStep) (defBody sIsStep) (defScope sIsStep) .none kV5 dc5 pm5 an5 cd5 ct5), sl5⟩) (c5 : PySem.W.codeIn K cd5 "is_step" = true) (k5 : PySem.W.keepIn K (.ref f5) = true)
    (a6 : PySem.W.nsIn K mainGlobals "may_follow" = some (some (.ref f6))) (l6 : K.lookup f6 = some ⟨oc6, od6, .func (PySem.W.fnOf "may_follow" "may_follow" (defArgs sMayFollow) (defBody sMayFollow) (defScope sMayFollow) .none kV6 dc6 pm6 an6 cd6 ct6), sl6⟩) (c6 : PySem.W.codeIn K cd6 "may_follow" = true) (k6 : PySem.W.keepIn K (.ref f6) = true)
    (a7 : PySem.W.nsIn K mainGlobals "is_dealing" = some (some (.ref f7))) (l7 : K.lookup f7 = some ⟨oc7, od7, .func (PySem.W.fnOf "is_dealing" "is_dealing" (defArgs sIsDealing) (defBody sIsDealing) (defScope sIsDealing) .none kV7 dc7 pm7 an7 cd7 ct7), sl7⟩) (c7 : PySem.W.codeIn K cd7 "is_dealing" = true) (k7 : PySem.W.keepIn K (.ref f7) = true)
    (a8 : PySem.W.nsIn K mainGlobals "check_dealing" = some (some (.ref f8))) (l8 : K.lookup f8 = some ⟨oc8, od8, .func (PySem.W.fnOf "check_dealing" "check_dealing" (defArgs sCheck) (defBody sCheck) (defScope sCheck) .none kV8 dc8 pm8 an8 cd8 ct8), sl8⟩) (c8 : PySem.W.codeIn K cd8 "check_dealing" = true) (k8 : PySem.W.keepIn K (.ref f8) = true)
    (a9 : PySem.W.nsIn K mainGlobals "boxes_of" = some (some (.ref f9))) (l9 : K.lookup f9 = some ⟨oc9, od9, .func (PySem.W.fnOf "boxes_of" "boxes_of" (defArgs sBoxesOf) (defBody sBoxesOf) (defScope sBoxesOf) .none kV9 dc9 pm9 an9 cd9 ct9), sl9⟩) (c9 : PySem.W.codeIn K cd9 "boxes_of" = true) (k9 : PySem.W.keepIn K (.ref f9) = true)
    (a10 : PySem.W.nsIn K mainGlobals "reads_of" = some (some (.ref f10))) (l10 : K.lookup f10 = some ⟨oc10, od10, .func (PySem.W.fnOf "reads_of" "reads_of" (defArgs sReads) (defBody sReads) (defScope sReads) .none kV10 dc10 pm10 an10 cd10 ct10), sl10⟩) (c10 : PySem.W.codeIn K cd10 "reads_of" = true) (k10 : PySem.W.keepIn K (.ref f10) = true)
    (a11 : PySem.W.nsIn K mainGlobals "writes_of" = some (some (.ref f11))) (l11 : K.lookup f11 = some ⟨oc11, od11, .func (PySem.W.fnOf "writes_of" "writes_of" (defArgs sWrites) (defBody sWrites) (defScope sWrites) .none kV11 dc11 pm11 an11 cd11 ct11), sl11⟩) (c11 : PySem.W.codeIn K cd11 "writes_of" = true) (k11 : PySem.W.keepIn K (.ref f11) = true)
    (a12 : PySem.W.nsIn K mainGlobals "clashes" = some (some (.ref f12))) (l12 : K.lookup f12 = some ⟨oc12, od12, .func (PySem.W.fnOf "clashes" "clashes" (defArgs sClashes) (defBody sClashes) (defScope sClashes) .none kV12 dc12 pm12 an12 cd12 ct12), sl12⟩) (c12 : PySem.W.codeIn K cd12 "clashes" = true) (k12 : PySem.W.keepIn K (.ref f12) = true)
    (a13 : PySem.W.nsIn K mainGlobals "_law_cell_at" = some (some (.ref f13))) (l13 : K.lookup f13 = some ⟨oc13, od13, .func (PySem.W.fnOf "_law_cell_at" "_law_cell_at" (defArgs sCellAt) (defBody sCellAt) (defScope sCellAt) .none kV13 dc13 pm13 an13 cd13 ct13), sl13⟩) (c13 : PySem.W.codeIn K cd13 "_law_cell_at" = true) (k13 : PySem.W.keepIn K (.ref f13) = true)
    (a14 : PySem.W.nsIn K mainGlobals "_law_digit" = some (some (.ref f14))) (l14 : K.lookup f14 = some ⟨oc14, od14, .func (PySem.W.fnOf "_law_digit" "_law_digit" (defArgs sDigit) (defBody sDigit) (defScope sDigit) .none kV14 dc14 pm14 an14 cd14 ct14), sl14⟩) (c14 : PySem.W.codeIn K cd14 "_law_digit" = true) (k14 : PySem.W.keepIn K (.ref f14) = true)
    (a15 : PySem.W.nsIn K mainGlobals "_law_box" = some (some (.ref f15))) (l15 : K.lookup f15 = some ⟨oc15, od15, .func (PySem.W.fnOf "_law_box" "_law_box" (defArgs sBox) (defBody sBox) (defScope sBox) .none kV15 dc15 pm15 an15 cd15 ct15), sl15⟩) (c15 : PySem.W.codeIn K cd15 "_law_box" = true) (k15 : PySem.W.keepIn K (.ref f15) = true)
    (a16 : PySem.W.nsIn K mainGlobals "_law_dealing" = some (some (.ref f16))) (l16 : K.lookup f16 = some ⟨oc16, od16, .func (PySem.W.fnOf "_law_dealing" "_law_dealing" (defArgs sDealing) (defBody sDealing) (defScope sDealing) .none kV16 dc16 pm16 an16 cd16 ct16), sl16⟩) (c16 : PySem.W.codeIn K cd16 "_law_dealing" = true) (k16 : PySem.W.keepIn K (.ref f16) = true)
    (a17 : PySem.W.nsIn K mainGlobals "_law_boxes" = some (some (.ref f17))) (l17 : K.lookup f17 = some ⟨oc17, od17, .func (PySem.W.fnOf "_law_boxes" "_law_boxes" (defArgs sBoxes2) (defBody sBoxes2) (defScope sBoxes2) .none kV17 dc17 pm17 an17 cd17 ct17), sl17⟩) (c17 : PySem.W.codeIn K cd17 "_law_boxes" = true) (k17 : PySem.W.keepIn K (.ref f17) = true)
    (a18 : PySem.W.nsIn K mainGlobals "_law_refused" = some (some (.ref f18))) (l18 : K.lookup f18 = some ⟨oc18, od18, .func (PySem.W.fnOf "_law_refused" "_law_refused" (defArgs sRefused) (defBody sRefused) (defScope sRefused) .none kV18 dc18 pm18 an18 cd18 ct18), sl18⟩) (c18 : PySem.W.codeIn K cd18 "_law_refused" = true) (k18 : PySem.W.keepIn K (.ref f18) = true)
    (a19 : PySem.W.nsIn K mainGlobals "_law_due" = some (some (.ref f19))) (l19 : K.lookup f19 = some ⟨oc19, od19, .func (PySem.W.fnOf "_law_due" "_law_due" (defArgs sDue) (defBody sDue) (defScope sDue) .none kV19 dc19 pm19 an19 cd19 ct19), sl19⟩) (c19 : PySem.W.codeIn K cd19 "_law_due" = true) (k19 : PySem.W.keepIn K (.ref f19) = true)
    (a20 : PySem.W.nsIn K mainGlobals "_law_none" = some (some (.ref f20))) (l20 : K.lookup f20 = some ⟨oc20, od20, .func (PySem.W.fnOf "_law_none" "_law_none" (defArgs sNone) (defBody sNone) (defScope sNone) .none kV20 dc20 pm20 an20 cd20 ct20), sl20⟩) (c20 : PySem.W.codeIn K cd20 "_law_none" = true) (k20 : PySem.W.keepIn K (.ref f20) = true)
    (a21 : PySem.W.nsIn K mainGlobals "law" = some (some (.ref f21))) (l21 : K.lookup f21 = some ⟨oc21, od21, .func (PySem.W.fnOf "law" "law" (defArgs sLaw) (defBody sLaw) (defScope sLaw) .none kV21 dc21 pm21 an21 (.ref cL) ct21), sl21⟩) (c21 : PySem.W.codeIn K (.ref cL) "law" = true) (k21 : PySem.W.keepIn K (.ref f21) = true)
    (z1 : PySem.W.nsIn K mainGlobals "isinstance" = some none)
    (z2 : PySem.W.nsIn K mainGlobals "int" = some none)
    (z3 : PySem.W.nsIn K mainGlobals "bool" = some none)
    (z4 : PySem.W.nsIn K mainGlobals "str" = some none)
    (z5 : PySem.W.nsIn K mainGlobals "tuple" = some none)
    (z6 : PySem.W.nsIn K mainGlobals "list" = some none)
    (z7 : PySem.W.nsIn K mainGlobals "len" = some none)
    (z8 : PySem.W.nsIn K mainGlobals "all" = some none)
    (z9 : PySem.W.nsIn K mainGlobals "set" = some none)
    (z10 : PySem.W.nsIn K mainGlobals "sorted" = some none)
    (z11 : PySem.W.nsIn K mainGlobals "enumerate" = some none)
    (z12 : PySem.W.nsIn K mainGlobals "range" = some none)
    (z13 : PySem.W.nsIn K mainGlobals "max" = some none)
    (z14 : PySem.W.nsIn K mainGlobals "min" = some none)
    (y1 : PySem.W.nsIn K mainGlobals "MOST_BOX" = some (some (.int 100000000 t1)))
    (y2 : PySem.W.nsIn K mainGlobals "MOST_STEPS" = some (some (.int 8 t2)))
    (xA : PySem.W.nsIn K mainGlobals "AloneError" = some (some (.ref CA)))
    (xB : PySem.W.nsIn K mainGlobals "NoDealing" = some (some (.ref CD)))
    (xC : PySem.W.nsIn K mainGlobals "NoDealings" = some (some (.ref CS)))
    (xV : PySem.W.nsIn K mainGlobals "ValueError" = some none)
    (xX : PySem.W.excIn K CD [.type "ValueError", .type "Exception", .type "BaseException", .type "object"] "ValueError.__new__" = true)
    (xK : PySem.W.keepIn K (.ref CD) = true)
    (xS : PySem.W.subIn K (.ref CD) (.type "BaseException") = some true)
    (xT : PySem.W.typeIn K (.ref CD) = some (.type "type"))
    (e1 : PySem.W.subIn K (.ref CA) (.type "BaseException") = some true)
    (e2 : PySem.W.hasDictIn K CA = true)
    (e3 : PySem.W.typeIn K (.ref CA) = some (.type "type"))
    (e4 : PySem.W.subIn K (.ref CD) (.ref CA) = some true)
    (xI : PySem.W.kitOne K (.ref CD) (.ref CD) = some true)
    (xJ : PySem.W.kitOne K (.ref CD) (.type "ValueError") = some true)
    (xL : PySem.W.kitOne K (.ref CD) (.ref CS) = some false)
    (w1 : PySem.W.findIn K (.ref CD) "__getattribute__" = some (some (.builtin "BaseException.__getattribute__")))
    (w2 : PySem.W.findIn K (.ref CD) "__getattr__" = some none)
    (w3 : PySem.W.hasDictIn K CD = true)
    (w4 : PySem.W.findIn K (.ref CD) "__class__" = some (some (.builtin "object.__class__")))
    (w5 : PySem.W.specialIn K (.builtin "object.__class__") "__get__" = some (some (.builtin "getset_descriptor.__get__")))
    (w6 : PySem.W.takesIn K (.builtin "object.__class__") = some true)
    (w7 : PySem.W.mroIn K CD (.type "object") = some true)
    (tP : h.get? pL = some { cls := .none, data := .fields #[] })
    (nP : K.lookup pL = none)
    (hC : PySem.W.codeHdIn K cL pL = true)
    : LamX.LawAtS l w K CX0 10 63 "_law_script" mg fa h := by
  have e := hfa.symm.trans (PySem.W.mg_of X G a21)
  cases e
  have F1 := fun_mk (st := sIsWhole) l1 c1 k1
  have b1 := F1.binds (ps := ["thing"]) fun _ _ _ _ _ _ us hl => match us, hl with | [_], _ => rfl
  have g1 := PySem.W.mg_of X G a1
  have F2 := fun_mk (st := sIsNumber) l2 c2 k2
  have b2 := F2.binds (ps := ["thing", "many"]) fun _ _ _ _ _ _ us hl => match us, hl with | [_, _], _ => rfl
  have g2 := PySem.W.mg_of X G a2
  have F3 := fun_mk (st := sIsBox) l3 c3 k3
  have b3 := F3.binds (ps := ["thing"]) fun _ _ _ _ _ _ us hl => match us, hl with | [_], _ => rfl
  have g3 := PySem.W.mg_of X G a3
  have F4 := fun_mk (st := sIsOneOf) l4 c4 k4
  have b4 := F4.binds (ps := ["thing", "words"]) fun _ _ _ _ _ _ us hl => match us, hl with | [_, _], _ => rfl
  have g4 := PySem.W.mg_of X G a4
  have F5 := fun_mk (st := sIsStep) l5 c5 k5
  have b5 := F5.binds (ps := ["thing"]) fun _ _ _ _ _ _ us hl => match us, hl with | [_], _ => rfl
  have g5 := PySem.W.mg_of X G a5
  have F6 := fun_mk (st := sMayFollow) l6 c6 k6
  have b6 := F6.binds (ps := ["step", "ahead"]) fun _ _ _ _ _ _ us hl => match us, hl with | [_, _], _ => rfl
  have g6 := PySem.W.mg_of X G a6
  have F7 := fun_mk (st := sIsDealing) l7 c7 k7
  have b7 := F7.binds (ps := ["thing"]) fun _ _ _ _ _ _ us hl => match us, hl with | [_], _ => rfl
  have g7 := PySem.W.mg_of X G a7
  have F8 := fun_mk (st := sCheck) l8 c8 k8
  have b8 := F8.binds (ps := ["thing"]) fun _ _ _ _ _ _ us hl => match us, hl with | [_], _ => rfl
  have g8 := PySem.W.mg_of X G a8
  have F9 := fun_mk (st := sBoxesOf) l9 c9 k9
  have b9 := F9.binds (ps := ["dealing", "asked"]) fun _ _ _ _ _ _ us hl => match us, hl with | [_, _], _ => rfl
  have g9 := PySem.W.mg_of X G a9
  have F10 := fun_mk (st := sReads) l10 c10 k10
  have b10 := F10.binds (ps := ["dealing"]) fun _ _ _ _ _ _ us hl => match us, hl with | [_], _ => rfl
  have g10 := PySem.W.mg_of X G a10
  have F11 := fun_mk (st := sWrites) l11 c11 k11
  have b11 := F11.binds (ps := ["dealing"]) fun _ _ _ _ _ _ us hl => match us, hl with | [_], _ => rfl
  have g11 := PySem.W.mg_of X G a11
  have F12 := fun_mk (st := sClashes) l12 c12 k12
  have b12 := F12.binds (ps := ["one", "other"]) fun _ _ _ _ _ _ us hl => match us, hl with | [_, _], _ => rfl
  have g12 := PySem.W.mg_of X G a12
  have F13 := fun_mk (st := sCellAt) l13 c13 k13
  have b13 := F13.binds (ps := ["_law_script", "_law_k"]) fun _ _ _ _ _ _ us hl => match us, hl with | [_, _], _ => rfl
  have g13 := PySem.W.mg_of X G a13
  have F14 := fun_mk (st := sDigit) l14 c14 k14
  have b14 := F14.binds (ps := ["_law_state", "_law_base"]) fun _ _ _ _ _ _ us hl => match us, hl with | [_, _], _ => rfl
  have g14 := PySem.W.mg_of X G a14
  have F15 := fun_mk (st := sBox) l15 c15 k15
  have b15 := F15.binds (ps := ["_law_state", "_law_few"]) fun _ _ _ _ _ _ us hl => match us, hl with | [_, _], _ => rfl
  have g15 := PySem.W.mg_of X G a15
  have F16 := fun_mk (st := sDealing) l16 c16 k16
  have b16 := F16.binds (ps := ["_law_state", "_law_few", "_law_most"]) fun _ _ _ _ _ _ us hl => match us, hl with | [_, _, _], _ => rfl
  have g16 := PySem.W.mg_of X G a16
  have F17 := fun_mk (st := sBoxes2) l17 c17 k17
  have b17 := F17.binds (ps := ["_law_found", "_law_due_here"]) fun _ _ _ _ _ _ us hl => match us, hl with | [_, _], _ => rfl
  have g17 := PySem.W.mg_of X G a17
  have F18 := fun_mk (st := sRefused) l18 c18 k18
  have b18 := F18.binds (ps := ["_law_ask"]) fun _ _ _ _ _ _ us hl => match us, hl with | [_], _ => rfl
  have g18 := PySem.W.mg_of X G a18
  have F19 := fun_mk (st := sDue) l19 c19 k19
  have b19 := F19.binds (ps := ["_law_one", "_law_other"]) fun _ _ _ _ _ _ us hl => match us, hl with | [_, _], _ => rfl
  have g19 := PySem.W.mg_of X G a19
  have F20 := fun_mk (st := sNone) l20 c20 k20
  have b20 := F20.binds (ps := ["_law_state", "_law_dealing_here"]) fun _ _ _ _ _ _ us hl => match us, hl with | [_, _], _ => rfl
  have g20 := PySem.W.mg_of X G a20
  have M : Mg mg := ⟨PySem.W.mg_none_of X G z1, PySem.W.mg_none_of X G z2, PySem.W.mg_none_of X G z3, PySem.W.mg_none_of X G z4, PySem.W.mg_none_of X G z5, PySem.W.mg_none_of X G z6, PySem.W.mg_none_of X G z7, PySem.W.mg_none_of X G z8, PySem.W.mg_none_of X G z9, PySem.W.mg_none_of X G z10, PySem.W.mg_none_of X G z11, PySem.W.mg_none_of X G z12, PySem.W.mg_none_of X G z13, PySem.W.mg_none_of X G z14, ⟨_, PySem.W.mg_of X G y1⟩, ⟨_, PySem.W.mg_of X G y2⟩⟩
  have T : Txt K mg CA CD CS := ⟨PySem.W.mg_of X G xA, PySem.W.mg_of X G xB, PySem.W.mg_of X G xC, PySem.W.mg_none_of X G xV, xX, xK, xS, xT, PySem.W.exm_ref e1 e2 e3 e4, xI, xJ, xL, ⟨w1, w2, xS, w3, w4, w5, w6, w7⟩⟩
  refine ⟨PySem.W.fnOf "law" "law" (defArgs sLaw) (defBody sLaw) (defScope sLaw) .none kV21 dc21 pm21 an21 (.ref cL) ct21, [(cL, pL)], spLaw K pL, fun p hp => by rw [List.mem_singleton.mp hp]; exact tP, fun p hp => by rw [List.mem_singleton.mp hp]; exact nP, fun p hp => by rw [List.mem_singleton.mp hp]; exact PySem.W.codeHd_of_K X hC, fun s v => .of_eq rfl,
    fun H a ns hl _ hT hS => ⟨a, ns, rfl, hS, hl, fun p hp => by rw [List.mem_singleton.mp hp]; exact LamX.TabS.nil (hT (cL, pL) (List.mem_singleton.mpr rfl)), fun _ => rfl⟩, fun base _ _ hTB => ?_⟩
  have TB : LamX.TabB base mg cL pL := hTB (cL, pL) (List.mem_singleton.mpr rfl)
  have W1 := fun k => ok_is_whole (P := l.prog) (w := w) (base := base) (k := k) F1 M
  have W2 := fun k => ok_is_number (k := k + 1) F2 M (W1 k) g1 k1 b1
  have W3 := fun k => ok_is_box (k := k + 2) F3 M (W2 k) g2 k2 b2
  have W4 := fun k => ok_is_one_of (P := l.prog) (w := w) (base := base) (k := k) F4 M
  have W5 := fun k => ok_is_step (k := k + 3) F5 M (W4 (k + 2)) g4 k4 b4 (W3 k) g3 k3 b3
  have W6 := fun k => ok_may_follow (P := l.prog) (w := w) (base := base) (k := k) F6 M
  have W7 := ok_is_dealing (k := 4) F7 M (W5 0) g5 k5 b5 (W6 3) g6 k6 b6
  have W8 := ok_check (k := 5) F8 T W7 g7 k7 b7
  have W9 := ok_boxes_of (P := l.prog) (w := w) (base := base) (k := 5) F9 M
  have W10 := ok_reads (k := 6) F10 W8 g8 k8 b8 W9 g9 k9 b9
  have W11 := ok_writes (k := 6) F11 W8 g8 k8 b8 W9 g9 k9 b9
  have W12 := ok_clashes (k := 6) F12 M W8 g8 k8 b8
  have D := fun k => ok_digit (P := l.prog) (w := w) (base := base) (k := k) F14 M
  have B := fun k => ok_box (k := k + 1) F15 M (D k) g14 k14 b14
  exact ok_law (k := 7) l21 c21 F18 g18 b18 TB M T (fun k => ⟨f13, _, ok_cell_at F13 M, g13, k13, b13⟩) (fun k => ⟨f14, _, D k, g14, k14, b14⟩) ⟨f16, _, ok_dealing (k := 8) F16 M (D 7) g14 k14 b14 (B 6) g15 k15 b15, g16, k16, b16⟩
    ⟨f20, _, ok_none (k := 8) F20 M (D 7) g14 k14 b14, g20, k20, b20⟩ ⟨f19, _, ok_due F19 M, g19, k19, b19⟩ ⟨f17, _, ok_boxes2 F17 M, g17, k17, b17⟩ ⟨f10, _, W10, g10, k10, b10⟩ ⟨f11, _, W11, g11, k11, b11⟩ ⟨f12, _, W12, g12, k12, b12⟩
end As
open PySem PySem.W PyProof.Rows
set_option maxHeartbeats 0 in
theorem PySem.Challenge.cw_asifalone_k02_what_dealings_touch_holds : PySem.Challenge.rw_asifalone_k02_what_dealings_touch.Holds := by
  w_on; o_law; k_head; (case hw => w_witness2)
  k_fill
  refine LamX.walk_ofTs (l := PySem.Challenge.rw_asifalone_k02_what_dealings_touch) (n := 63) (k := 10) (x := "_law_script") (CX := fun _ => L2.CX0) rfl (by decide) rfl ⟨rfl, by decide, by decide⟩ (fun w h Y => PySem.W.km_in_of Y) ?F (fun _ _ _ _ _ h => h)
  case F =>
    intro w mg fa h Y KX G hmg
    refine' As.all_mk KX G hmg ?a1 ?l1 ?c1 ?k1 ?a2 ?l2 ?c2 ?k2 ?a3 ?l3 ?c3 ?k3 ?a4 ?l4 ?c4 ?k4 ?a5 ?l5 ?c5 ?k5 ?a6 ?l6 ?c6 ?k6 ?a7 ?l7 ?c7 ?k7 ?a8 ?l8 ?c8 ?k8 ?a9 ?l9 ?c9 ?k9 ?a10 ?l10 ?c10 ?k10 ?a11 ?l11 ?c11 ?k11 ?a12 ?l12 ?c12 ?k12 ?a13 ?l13 ?c13 ?k13 ?a14 ?l14 ?c14 ?k14 ?a15 ?l15 ?c15 ?k15 ?a16 ?l16 ?c16 ?k16 ?a17 ?l17 ?c17 ?k17 ?a18 ?l18 ?c18 ?k18 ?a19 ?l19 ?c19 ?k19 ?a20 ?l20 ?c20 ?k20 ?a21 ?l21 ?c21 ?k21 ?z1 ?z2 ?z3 ?z4 ?z5 ?z6 ?z7 ?z8 ?z9 ?z10 ?z11 ?z12 ?z13 ?z14 ?y1 ?y2 ?xA ?xB ?xC ?xV ?xX ?xK ?xS ?xT ?e1 ?e2 ?e3 ?e4 ?xI ?xJ ?xL ?w1 ?w2 ?w3 ?w4 ?w5 ?w6 ?w7 ?tP ?nP ?hC
    (case tP => exact PySem.W.km_tabs_of Y _ (List.mem_cons_self ..))
    (case a1 => k_is); (case l1 => k_is); (case c1 => k_is); (case k1 => k_is); (case a2 => k_is); (case l2 => k_is); (case c2 => k_is); (case k2 => k_is); (case a3 => k_is); (case l3 => k_is); (case c3 => k_is); (case k3 => k_is); (case a4 => k_is); (case l4 => k_is); (case c4 => k_is); (case k4 => k_is); (case a5 => k_is); (case l5 => k_is); (case c5 => k_is); (case k5 => k_is); (case a6 => k_is); (case l6 => k_is); (case c6 => k_is); (case k6 => k_is); (case a7 => k_is); (case l7 => k_is); (case c7 => k_is); (case k7 => k_is); (case a8 => k_is); (case l8 => k_is); (case c8 => k_is); (case k8 => k_is); (case a9 => k_is); (case l9 => k_is); (case c9 => k_is); (case k9 => k_is); (case a10 => k_is); (case l10 => k_is); (case c10 => k_is); (case k10 => k_is); (case a11 => k_is); (case l11 => k_is); (case c11 => k_is); (case k11 => k_is); (case a12 => k_is); (case l12 => k_is); (case c12 => k_is); (case k12 => k_is); (case a13 => k_is); (case l13 => k_is); (case c13 => k_is); (case k13 => k_is); (case a14 => k_is); (case l14 => k_is); (case c14 => k_is); (case k14 => k_is); (case a15 => k_is); (case l15 => k_is); (case c15 => k_is); (case k15 => k_is); (case a16 => k_is); (case l16 => k_is); (case c16 => k_is); (case k16 => k_is); (case a17 => k_is); (case l17 => k_is); (case c17 => k_is); (case k17 => k_is); (case a18 => k_is); (case l18 => k_is); (case c18 => k_is); (case k18 => k_is); (case a19 => k_is); (case l19 => k_is); (case c19 => k_is); (case k19 => k_is); (case a20 => k_is); (case l20 => k_is); (case c20 => k_is); (case k20 => k_is); (case a21 => k_is); (case l21 => k_is); (case c21 => k_is); (case k21 => k_is); (case z1 => k_is); (case z2 => k_is); (case z3 => k_is); (case z4 => k_is); (case z5 => k_is); (case z6 => k_is); (case z7 => k_is); (case z8 => k_is); (case z9 => k_is); (case z10 => k_is); (case z11 => k_is); (case z12 => k_is); (case z13 => k_is); (case z14 => k_is); (case y1 => k_is); (case y2 => k_is); (case xA => k_is); (case xB => k_is); (case xC => k_is); (case xV => k_is); (case xX => k_exc); (case xK => k_is); (case xS => k_is); (case xT => k_is); (case e1 => k_is); (case e2 => k_is); (case e3 => k_is); (case e4 => k_is); (case xI => first | k_is | kernel_rfl | rfl); (case xJ => first | k_is | kernel_rfl | rfl); (case xL => first | k_is | kernel_rfl | rfl); (case w1 => k_is); (case w2 => k_is); (case w3 => k_is); (case w4 => k_is); (case w5 => k_is); (case w6 => k_is); (case w7 => k_is); (case nP => first | k_is | kernel_rfl | rfl); (case hC => first | k_is | kernel_rfl | rfl)
