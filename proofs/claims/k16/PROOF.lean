import PyProof.Rows.All
import Wide.All
import OpenK.AllK
import Wide.FinOn
import HandS.ForMost
import HandS.Walk
import HandS.Deep
import HandS.TupAny
import HandS.IsInst
import KE.GoesEnum
import KE.KRevSl
import HandS.Style
import HandS.ForExc
import HandS.ExcIs
import HandS.SortInts
import HandS.Conv
import KE.KSortedM
import HandS.Evl
import HandS.Lambda
import HandS.EndTab
import HandS.WordsExc
import HandS.Dict
import HandS.Small
import HandS.TupMul
import HandS.ExcInit
import KE.KExcSuper
import HandS.ExcField
import HandS.HotCalls
import KE.KExcIs
import HandS.FStr
import HandS.Sort
import PyProof.MinMaxWalk
import PyProof.WalkInts
import PySem.Challenge.RW_asifalone_k16_number_of_what_is_none
set_option Elab.async false
set_option linter.all false
set_option maxRecDepth 100000
set_option maxHeartbeats 4000000
/-! rules that the layer lacks: enumerate of a tuple, in over a tuple of data, t[::-1] of a tuple -/
namespace PySem
open Sem (wp)
set_option maxHeartbeats 4000000 in
theorem as_meets_enum {v : Value} {o : Obj} {H : Heap → Prop} (B : Begins v o H) :
    Meets (Builtin.«enumerate.__new__» ⟨[.type "enumerate", v], []⟩) (fun _ R s => H s.heap ∧
      R (.ok (.ret (.ref (s.heap.push o).objs.size))) { s with heap := (s.heap.push o).push { cls := .type "enumerate", data := .fields #[.none, .bool false, .ref s.heap.objs.size, rawInt 0, .none, .none] } }) :=
  .of_wp fun prog w A R s h => by
    obtain ⟨hpk, g, d, tkk, osk⟩ := s; obtain ⟨h1, h⟩ := h
    have hsub := sub_enumerate
    have q1k : ∀ {A' : Around} {E : Value → Shared → Prop} {Q : Value → Shared → Prop}, Q (.ref hpk.objs.size) ⟨hpk.push o, g, d, tkk, osk⟩ → wpAny (model prog w) A' (pyIter v) Q E ⟨hpk, g, d, tkk, osk⟩ :=
      fun q => B.iter prog w _ _ ⟨hpk, g, d, tkk, osk⟩ _ h1 q
    wp_walk using q1k
    refine wpAny_stack_any fun st => wpAny_pure ?_
    split
    · rename_i c _ _ _ _ _
      cases (c == Value.type "enumerate")
      · wp_walk using q1k
        exact ⟨_, rfl, h⟩
      · wp_walk using q1k
        exact ⟨_, rfl, h⟩
    · wp_walk using q1k
      exact ⟨_, rfl, h⟩
section
variable {prog : Program} {w : World} {A : Around} {E : Value → Shared → Prop} {s : Shared}
theorem as_call_enum {v : Value} {o : Obj} {H : Heap → Prop} {Q : Value → Shared → Prop} (B : Begins v o H) (h1 : H s.heap)
    (h : ∀ h', IsEnum h' (s.heap.objs.size + 1) s.heap.objs.size 0 .none → h'.get? s.heap.objs.size = some o → h'.objs.size = s.heap.objs.size + 2 →
      (∀ b o, s.heap.get? b = some o → h'.get? b = some o) → Q (.ref (s.heap.objs.size + 1)) { s with heap := h' }) :
    wpAny (model prog w) A (call (.type "enumerate") [v]) Q E s := by
  refine callType_new F.called_enumerate (by decide) (F.typeCall_enumerate_1 _) (F.newCall_enumerate_1 _) (fun obj => F.args_object_init_2 obj _) F.entry_enumerate_new
    (as_meets_enum B) ⟨h1, ?_⟩
  have hzk : (s.heap.push o).objs.size = s.heap.objs.size + 1 := Heap.size_push ..
  show _ ∧ _
  rw [hzk]
  have hek : IsEnum ((s.heap.push o).push { cls := .type "enumerate", data := .fields #[.none, .bool false, .ref s.heap.objs.size, rawInt 0, .none, .none] }) (s.heap.objs.size + 1) s.heap.objs.size 0 .none := by
    have := Heap.get?_push_size (s.heap.push o) (o := { cls := .type "enumerate", data := .fields #[.none, .bool false, .ref s.heap.objs.size, rawInt 0, .none, .none] }) rfl
    rw [hzk] at this; exact this
  refine ⟨⟨_, hek, rfl⟩, h _ hek (Heap.get?_push_of_some _ (Heap.get?_push_size _ B.free)) (by rw [Heap.size_push, hzk]) fun b o x => Heap.get?_push_of_some _ (Heap.get?_push_of_some _ x)⟩
end
end PySem
namespace L2
open PySem PySem.Spec PyProof.Rows
/-! ### enumerate(tuple) -/
def ItEt (K : PySem.W.Frag) (a : Addr) : It :=
  ⟨fun i H => ∃ (xs : List V) (x : V), SqT K H a xs ∧ xs[i]? = some x, fun i H v H' => ∃ T x, v = .ref T ∧ H T = none ∧ H' = upd H T (.tup [.int (i : Nat), x]) ∧ ∀ xs, SqT K H a xs → xs[i]? = some x, fun i H => ∃ xs : List V, SqT K H a xs ∧ xs.length = i⟩
theorem turn_enumT {P : Program} {w : World} {K : PySem.W.Frag} {elts : List Expr} {kk : Nat} {tpos : Pos} (a e it : Addr) :
    Turn P w K (.Tuple elts kk tpos) (ItEt K a) [e, it] e (fun i h => (∃ oldk, IsEnum h e it ((i : Nat) : Int) oldk) ∧ h.IsTupleIter it a i ∧ e ≠ it ∧ a ≠ it ∧ a ≠ e) where
  mem := by simp
  obj := fun i h st b hbk => by
    obtain ⟨⟨oldk, hek⟩, ⟨o, ho, hc, hd⟩, _⟩ := st
    have ek' : b = e ∨ b = it := by simpa using hbk
    rcases ek' with z | z
    · rw [z]; exact ⟨_, hek, fun v q => nomatch q⟩
    · rw [z]; exact ⟨o, ho, fun v q => by rw [hd] at q; cases q⟩
  keep := fun i h h' st k => let ⟨⟨oldk, hek⟩, hik, hnek⟩ := st; ⟨⟨oldk, k e (by simp) _ hek⟩, hik.at fun o q => k it (by simp) o q, hnek⟩
  item := by
    intro X hPk hwk hKk hc i pinsk s σ H E Ik hfk st hgk
    subst hPk hwk hKk
    obtain ⟨⟨oldk, hek⟩, hitk, hnek, hai, hae⟩ := st
    obtain ⟨xs, x, hqk, hxk⟩ := hgk
    obtain ⟨itsk, rvk, p, hzk⟩ := Ik.tuple hqk
    obtain ⟨u, huk, ruk⟩ := rvk.get hxk
    have helk : e < s.heap.objs.size := Heap.lt_size hek
    have hilk : it < s.heap.objs.size := by obtain ⟨_, q, _⟩ := hitk; exact Heap.lt_size q
    have p' : s.heap.IsTuple a itsk.toArray := p
    have hlt : i < itsk.toArray.size := by
      have := (List.getElem?_eq_some_iff.mp huk).1
      simpa using this
    refine wpAny_pyNext_enum_itemD (Draws.tuple (A := X.A.in1) (Ik.ok.hd hc) it a hai itsk.toArray) hek ⟨hitk, p'⟩ hlt hnek (by simp only [List.mem_cons, List.mem_singleton, List.not_mem_nil, or_false, not_or]; exact ⟨hnek, fun z => hae z.symm⟩) fun x' h' tkk hx' ho st' hTk hszk hkk => ?_
    have exk : x' = u := by
      have q1k : itsk[i]? = some x' := by simpa using hx'
      exact Option.some.inj (q1k.symm.trans huk)
    subst exk
    obtain ⟨hit', _⟩ := st'
    refine ⟨_, rfl, wpAny_letOwnedTupleGo_enum (s := { s with heap := h', toks := tkk + 1 }) ho fun h'' he' sbk => ?_⟩
    have hT2 : h''.get? s.heap.objs.size = some { cls := .type "tuple", data := .seq #[.int i tkk, x'] } := (sbk.2 _ (Nat.ne_of_gt helk)).trans hTk
    have newk : ObjOk X.prog X.w (upd H s.heap.objs.size (.tup [.int (i : Nat), x])) h'' s.heap.objs.size (.tup [.int (i : Nat), x]) :=
      ⟨by show 2 ≤ sizeLine; decide, [.int i tkk, x'], .cons ⟨_, rfl⟩ (.cons ruk .nil), ⟨_, hT2, rfl, _, rfl⟩⟩
    have I1k : Inv X pinsk σ (upd H s.heap.objs.size (.tup [.int (i : Nat), x])) { s with heap := h'', toks := tkk + 1 } :=
      Ik.turnedNew (ch := [e, it]) (fun b ob hbk q => (sbk.2 b (fun z => hbk (by simp [z]))).trans (hkk b ob (fun z => hbk (by simp [z])) (fun z => hbk (by simp [z])) q)) hfk (Nat.le_refl _) newk
    refine ⟨.ref s.heap.objs.size, _, I1k, rfl, ⟨_, x, rfl, Ik.hok.fresh (Nat.le_refl _), rfl, fun ys hy => by rw [Ik.tuple_inj hy hqk]; exact hxk⟩, ⟨⟨x', ?_⟩, hit'.at fun o q => (sbk.2 it (Ne.symm hnek)).trans q, hnek, hai, hae⟩, fun b hbk => ?_⟩
    · have e1 : ((i + 1 : Nat) : Int) = (i : Int) + 1 := by omega
      rw [e1]; exact he'
    · have hbk' : b < s.heap.objs.size := by
        have ek' : b = e ∨ b = it := by simpa using hbk
        rcases ek' with z | z
        · rw [z]; exact helk
        · rw [z]; exact hilk
      rw [upd_ne (Nat.ne_of_lt hbk')]
      exact (hfk b hbk).1
  done := by
    intro X hPk hwk hKk hc i pinsk s σ H E Ik hfk st hgk
    subst hPk hwk hKk
    obtain ⟨⟨oldk, hek⟩, hitk, hnek, hai, hae⟩ := st
    obtain ⟨xs, hqk, hxk⟩ := hgk
    obtain ⟨itsk, rvk, p, hzk⟩ := Ik.tuple hqk
    obtain ⟨f0k, f1k, f2k, f3k, f4k, f5k⟩ := hfk it (by simp)
    have hl := rvk.length
    have hit2 : s.heap.IsTupleIter it a i := hitk
    exact wpAny_pyNext_enum_endD (Draws.tuple (A := X.A.in1) (Ik.ok.hd hc) it a hai itsk.toArray) hek (show s.heap.IsTupleIter it a itsk.toArray.size ∧ s.heap.IsTuple a itsk.toArray from ⟨by
        have e0 : itsk.toArray.size = i := by rw [List.size_toArray]; omega
        rw [e0]; exact hitk, p⟩) fun h' eb => ⟨rfl, Ik.turned (t' := s.toks) (fun b o hbk q => eb b o hbk q) f0k f1k f3k f4k f5k⟩
  self := fun A i s Q E st h => let ⟨⟨_, hek⟩, _⟩ := st; wpAny_pyIter_enum hek h
def iEnumT (K : PySem.W.Frag) (ta : TA) : TI := fun σ H R => ta σ H fun vs H1k => ∃ a xs, vs = [.ref a] ∧ SqT K H1k a xs ∧ R (ItEt K a) H1k
theorem pi_enumT {X : Cx} {e : Expr} {ta : TA} {p pos tpos : Pos} {elts : List Expr} {kk : Nat} (hgk : Gl X "enumerate") (hm : X.mg "enumerate" = none) (ha : PA X [e] ta) (hsk : starEach [e] X.env = [(false, eval e X.env)] := by rfl) :
    PI X (.Tuple elts kk tpos) (.Call (.Name "enumerate" p) [e] [] pos) (iEnumT X.K ta) := by
  refine ⟨fun pinsk s σ H R Ik h => ?_⟩
  refine Call_ (ld_blt Ik hgk hm boot_enumerate (PyProof.Rows.callWith_type1 (thn (ha.run pos pinsk s σ H _ Ik h) fun us s1k ⟨vs, H1k, I1k, r1k, q1k⟩ => ?_) hsk rfl))
  obtain ⟨a, xs, exk, hqk, q⟩ := q1k
  subst exk
  cases r1k with
  | cons r rr =>
    cases rr
    cases r
    obtain ⟨itsk, rvk, p', hzk⟩ := I1k.tuple hqk
    have p2 : s1k.heap.IsTuple a itsk.toArray := p'
    have hal : a < s1k.heap.objs.size := by obtain ⟨o, ho, _⟩ := p2; exact Heap.lt_size ho
    refine as_call_enum (begins_tuple a itsk.toArray) p2 fun h' hek hitk hszk hkk => wpAny_pyIter_enum hek ?_
    have I2k : Inv X pinsk σ H1k { s1k with heap := h' } := I1k.kept (t' := s1k.toks) hkk
    refine ⟨s1k.heap.objs.size + 1, [s1k.heap.objs.size + 1, s1k.heap.objs.size], _, _, H1k, rfl, I2k, turn_enumT a (s1k.heap.objs.size + 1) s1k.heap.objs.size, ⟨⟨.none, hek⟩, ⟨_, hitk, rfl, rfl⟩, Nat.succ_ne_self _, Nat.ne_of_lt hal, Nat.ne_of_lt (Nat.lt_succ_of_lt hal)⟩, fun b hbk => ?_, q⟩
    have ek' : b = s1k.heap.objs.size + 1 ∨ b = s1k.heap.objs.size := by simpa using hbk
    have hlek : s1k.heap.objs.size ≤ b := by
      rcases ek' with z | z
      · rw [z]; exact Nat.le_add_right _ _
      · rw [z]; exact Nat.le_refl _
    exact I1k.fpOk hlek (I1k.hok.fresh hlek)
theorem walk_enumT {K : PySem.W.Frag} {a : Addr} {xs : List V} : Walk (ItEt K a) xs.length (fun H => SqT K H a xs) (YPair (fun i => some (.int (i : Nat))) (fun i => xs[i]?)) where
  goes := fun i H hik h => ⟨xs, xs[i], h, List.getElem?_eq_getElem hik⟩
  stops := fun H h => ⟨xs, h, rfl⟩
  yields := fun i H x H' _ h y => by
    obtain ⟨T, z, e1, e2k, e3k, e4k⟩ := y
    exact ⟨T, _, z, e1, e2k, e3k, rfl, e4k xs h⟩
/-! ### in over a tuple of data -/
section
variable {X : Cx}
def rInDT (K : PySem.W.Frag) : R2 := fun x y H Q => ∃ d ds, Dp K H x d ∧ Dp K H y (.tuple ds) ∧ SeqAt.shaped d = true ∧ SeqAt.shaped (.tuple ds) = true ∧ Q (.bl (ds.any fun z => PyData.eqv z d)) H
def rNotInDT (K : PySem.W.Frag) : R2 := fun x y H Q => ∃ d ds, Dp K H x d ∧ Dp K H y (.tuple ds) ∧ SeqAt.shaped d = true ∧ SeqAt.shaped (.tuple ds) = true ∧ Q (.bl (!ds.any fun z => PyData.eqv z d)) H
theorem op_inDT (huk : X.A.units + 65 < cLine) : OpR X (compareOp .In) (rInDT X.K) := by
  intro pinsk s σ H x y v u Q Ik rxk ryk h
  obtain ⟨d, ds, hd, hek, sdk, sek, q⟩ := h
  obtain ⟨as, r1k⟩ := Dp.reads Ik d x v hd rxk
  obtain ⟨bs, r2⟩ := Dp.reads Ik (.tuple ds) y u hek ryk
  exact SeqAt.in_tuple_reads r2 r1k (SeqAt.canLay_of_shaped sek) (SeqAt.canLay_of_shaped sdk) (room_in_shaped sdk huk) ⟨.bl _, H, Ik, rfl, q⟩
theorem op_notInDT (huk : X.A.units + 65 < cLine) : OpR X (compareOp .NotIn) (rNotInDT X.K) := by
  intro pinsk s σ H x y v u Q Ik rxk ryk h
  obtain ⟨d, ds, hd, hek, sdk, sek, q⟩ := h
  obtain ⟨as, r1k⟩ := Dp.reads Ik d x v hd rxk
  obtain ⟨bs, r2⟩ := Dp.reads Ik (.tuple ds) y u hek ryk
  exact SeqAt.notIn_tuple_reads r2 r1k (SeqAt.canLay_of_shaped sek) (SeqAt.canLay_of_shaped sdk) (room_in_shaped sdk huk) ⟨.bl _, H, Ik, rfl, q⟩
end
end L2

namespace HT
open PySem PySem.Spec PyProof.Rows L2
section
variable {prog : Program} {w : World} {A : Around} {E : Value → Shared → Prop} {s : Shared}
theorem as_adjust_rev (n : Nat) : Builtin.Slice.sliceAdjust none none (-1) (n : Int) = ((n : Int) - 1, -1) := by
  unfold Builtin.Slice.sliceAdjust
  simp
theorem as_places_rev (n : Nat) : Builtin.Slice.slicePlaces ((n : Int) - 1) (-1) (-1) = n := by
  unfold Builtin.Slice.slicePlaces
  have h1 : ¬ ((-1 : Int) > 0) := by omega
  rw [if_neg h1]
  by_cases h : ((n : Int) - 1 > -1)
  · rw [if_pos h]
    have e : -(-1 : Int) = 1 := by omega
    rw [e, Int.ediv_one]
    omega
  · rw [if_neg h]
    omega
theorem as_sliceApplied_rev {sl : Addr} {vlk vuk vs : Value} {n : Nat} {Q : Int × Int × Nat → Shared → Prop} (hsk : s.heap.IsSliceOf sl vlk vuk vs) (pl : IsPart vlk none) (pu : IsPart vuk none) (ps : IsPart vs (some (-1)))
    (h : Q ((n : Int) - 1, -1, n) s) : wpAny (model prog w) A (Builtin.Slice.sliceApplied (.ref sl) (pure (n : Int))) Q E s := by
  obtain ⟨osk, hosk, hcsk, hdsk⟩ := id hsk
  unfold Builtin.Slice.sliceApplied Builtin.Slice.sliceFields
  refine wpAny_bind (wpAny_bind (wpAny_field hosk hdsk (x := vlk) rfl (wpAny_bind (wpAny_field hosk hdsk (x := vuk) rfl (wpAny_bind (wpAny_field hosk hdsk (x := vs) rfl (wpAny_pure ?_)))))))
  refine wpAny_bind (slicePart_ ps ?_)
  show wpAny _ _ (if ((-1 : Int) == 0) = true then _ else _) _ _ s
  rw [if_neg (by decide)]
  refine wpAny_bind (slicePart_ pl (wpAny_bind (slicePart_ pu (wpAny_bind (wpAny_pure ?_)))))
  show wpAny _ _ (match Builtin.Slice.sliceAdjust none none (-1) (n : Int) with | (lo, hik) => pure (lo, (-1 : Int), Builtin.Slice.slicePlaces lo hik (-1))) _ _ s
  rw [as_adjust_rev n]
  show wpAny _ _ (pure ((n : Int) - 1, (-1 : Int), Builtin.Slice.slicePlaces ((n : Int) - 1) (-1) (-1))) _ _ s
  rw [as_places_rev]
  exact wpAny_pure h
theorem as_pick_rev (xs : Array Value) : ((List.range xs.size).filterMap fun (m : Nat) => xs[((xs.size : Int) - 1 + (m : Int) * (-1)).toNat]?).toArray = xs.toList.reverse.toArray := by
  have e : (List.range xs.size).filterMap (fun (m : Nat) => xs[((xs.size : Int) - 1 + (m : Int) * (-1)).toNat]?) = ((List.range xs.size).map fun k => xs.size - 1 - k).filterMap (fun k => xs[k]?) := by
    rw [List.filterMap_map]
    congr 1
    funext m
    have : ((xs.size : Int) - 1 + (m : Int) * (-1)).toNat = xs.size - 1 - m := by omega
    simp only [this, Function.comp]
  rw [e, PySem.W.krv_range, List.filterMap_reverse, PySem.W.krv_all]
theorem as_getItem_rev {t sl : Addr} {items : Array Value} {vlk vuk vs : Value} {Q : Value → Shared → Prop} (htk : IsTup s.heap t items) (hsk : s.heap.IsSliceOf sl vlk vuk vs) (pl : IsPart vlk none) (pu : IsPart vuk none) (ps : IsPart vs (some (-1)))
    (h : Q (.ref s.heap.objs.size) { s with heap := s.heap.push { cls := .type "tuple", data := .seq items.toList.reverse.toArray } })
    (hszk : items.size ≤ sizeLine) : wpAny (model prog w) A (getItem (.ref t) (.ref sl)) Q E s := by
  have htakek : sizeOk (.seq items.toList.reverse.toArray) := by
    show items.toList.reverse.toArray.size ≤ sizeLine
    rw [List.size_toArray, List.length_reverse, Array.length_toList]
    exact hszk
  obtain ⟨osk, hosk, hcsk, hdsk⟩ := id hsk
  have hTsk : s.TypeIs (.ref sl) "slice" := ⟨osk, hosk, hcsk⟩
  unfold getItem
  try with_reducible refine wpAny_holding ?_
  first | refine wpAny_bind (wpAny_pure ?_) | skip
  refine wpAny_bind (wpAny_sequenceKey htk.typeIs (by decide) ?_)
  refine wpAny_bind (wpAny_callSpecial?_slot (name := Str.ofString "__getitem__") htk.typeIs PyProof.Rows.slot_tuple_getitem
    (wpAny_call_entry PyProof.Rows.slot_tuple_getitem htk.typeIs entry_tuple_getitem ?_ (args_tuple_getitem _ _)))
  show wpAny _ _ (Builtin.Tuple.tupleItemsOf (.ref t) >>= _) _ _ s
  refine wpAny_bind (tupleItemsOf_ htk ?_)
  refine wpAny_bind (wpAny_typeOf hTsk ?_)
  rw [if_pos (by decide)]
  refine wpAny_bind (as_sliceApplied_rev hsk pl pu ps ?_)
  have hno : ¬ ((((items.size : Int) - 1) == 0 && (-1 : Int) == 1 && items.size == items.size) = true) := by
    intro q
    rw [Bool.and_eq_true, Bool.and_eq_true] at q
    exact absurd (eq_of_beq q.1.2) (by decide)
  show wpAny _ _ (if (((items.size : Int) - 1) == 0 && (-1 : Int) == 1 && items.size == items.size) = true then _ else _) _ _ s
  rw [if_neg hno, as_pick_rev]
  first
    | exact wpAny_bind (m := Builtin.Tuple.tupleExact _) (wpAny_newObj_type (wpAny_pure ⟨_, rfl, wpAny_pure h⟩) htakek)
    | exact wpAny_bind (m := Builtin.Tuple.tupleExact _) (wpAny_newObj_type (wpAny_bind (wpAny_pure (wpAny_pure ⟨_, rfl, wpAny_pure h⟩))) htakek)
    | exact wpAny_bind (wpAny_bind (m := Builtin.Tuple.tupleExact _) (wpAny_newObj_type (wpAny_pure (wpAny_pure ⟨_, rfl, wpAny_pure h⟩)) htakek))
    | exact wpAny_bind (wpAny_bind (m := Builtin.Tuple.tupleExact _) (wpAny_newObj_type (wpAny_pure ⟨_, rfl, wpAny_pure h⟩) htakek))
end
end HT
namespace L2
open PySem PySem.Spec PyProof.Rows
section
variable {X : Cx}
def tRevT (K : PySem.W.Frag) (te : TE) : TE := fun σ H Q => te σ H fun x H1k => ∃ a xs, x = .ref a ∧ SqT K H1k a xs ∧ ∀ p, H1k p = none → Q (.ref p) (upd H1k p (.tup xs.reverse))
theorem pe_revT {e : Expr} {te : TE} {k : Nat} {p1 p2 p3 pos : Pos} (hek : PE X e te) : PE X (.Subscript e (.Slice none none (some (.UnaryOp .USub (.Constant (.int 1) k p1) p2)) p3) pos) (tRevT X.K te) := by
  refine ⟨fun pinsk s σ H Q Ik h => ?_⟩
  refine Subscript_ (thn (hek.run pinsk s σ H _ Ik h) fun v s1k ⟨x, H1k, I1k, r1k, q1k⟩ => ?_)
  obtain ⟨a, xs, exk, hxk, q⟩ := q1k
  subst exk
  cases r1k
  have hstk : PO X (some (.UnaryOp .USub (.Constant (.int 1) k p1) p2)) (tPart (tUn (rU fun i => .int (-i)) (tC (.int 1)))) := po_some (pe_un un_neg pe_int)
  refine wpAny_Slice (thn (po_none.run pinsk s1k σ H1k (fun o H2k => o = none ∧ H2k = H1k) I1k ⟨rfl, rfl⟩) fun vlk s2k ⟨l, H2k, I2k, pl, elk, e2k⟩ => ?_)
  subst elk e2k
  refine thn (po_none.run pinsk s2k σ H2k (fun o H3k => o = none ∧ H3k = H2k) I2k ⟨rfl, rfl⟩) fun vuk s3k ⟨u, H3k, I3, pu, euk, e3k⟩ => ?_
  subst euk e3k
  refine thn (hstk.run pinsk s3k σ H3k (fun o H4k => o = some (-1) ∧ H4k = H3k) I3 ⟨1, rfl, -1, rfl, rfl, rfl⟩) fun vs s4k ⟨o, H4k, I4, ps, eok, e4k⟩ => ?_
  subst eok e4k
  have I5k : Inv X pinsk σ H4k { s4k with heap := s4k.heap.push { cls := .type "slice", data := .fields #[vlk, vuk, vs] } } := I4.kept (t' := s4k.toks) fun b ob q => Heap.get?_push_of_some _ q
  obtain ⟨itsk, r, htk, hzk⟩ := I5k.tuple hxk
  have hlen := r.length
  show wpAny (model X.prog X.w) X.A (subscriptTail e (.Slice none none (some (.UnaryOp .USub (.Constant (.int 1) k p1) p2)) p3) (.ref a) (.ref s4k.heap.objs.size)) (EP X pinsk σ Q) X.xe { s4k with heap := s4k.heap.push { cls := .type "slice", data := .fields #[vlk, vuk, vs] } }
  refine tail_any (ops := [.ref a, .ref s4k.heap.objs.size]) htk.typeIs (PyProof.Rows.slot_tuple_getitem.lookup) ?_ (by with_unfolding_all rfl)
  refine HT.as_getItem_rev htk (Heap.IsSliceOf.new _ vlk vuk vs) pl pu ps ?_ (by rw [List.size_toArray]; omega)
  refine ⟨.ref _, _, I5k.laid (t' := s4k.toks) (o := .tup xs.reverse) (fun b ob q => Heap.get?_push_of_some _ q) (Nat.le_refl _) ?_, rfl, q _ (I5k.hok.fresh (Nat.le_refl _))⟩
  exact ⟨by rw [List.length_reverse]; exact hzk, _, r.reverse, ⟨_, Heap.get?_push_size _ rfl, rfl, _, rfl⟩⟩
end
end L2

namespace As
open PySem PySem.Spec PyProof.Rows L2
/-! ### heaps: all but the well of draws stays -/
def ExS (st : Addr) (H H' : Hp) : Prop := ∀ a o, a ≠ st → H a = some o → H' a = some o
theorem ExS.refl (st : Addr) (H : Hp) : ExS st H H := fun _ _ _ h => h
theorem ExS.trans {st : Addr} {H H1 H2 : Hp} (a : ExS st H H1) (b : ExS st H1 H2) : ExS st H H2 := fun x o n h => b x o n (a x o n h)
theorem ExS.of {st : Addr} {H H' : Hp} (e : Same H H') : ExS st H H' := fun a o _ h => e a o h
theorem same_new {H : Hp} {p : Addr} {o : HO} (h : H p = none) : Same H (upd H p o) := fun a u e => by
  rw [upd_ne (ne_of_none e h)]
  exact e
theorem ExS.new {st : Addr} {H : Hp} {p : Addr} {o : HO} (h : H p = none) : ExS st H (upd H p o) := .of (same_new h)
theorem ExS.at_ {st : Addr} {H : Hp} {o : HO} : ExS st H (upd H st o) := fun a u n e => by
  rw [upd_ne n]
  exact e
theorem Same.new {H H' : Hp} {p : Addr} {o : HO} (e : Same H H') (h : H' p = none) : Same H (upd H' p o) := Same.trans e (same_new h)
theorem Same.mut {H H' : Hp} {p : Addr} {o : HO} (e : Same H H') (h : H p = none) : Same H (upd H' p o) := fun a u ha => by
  rw [upd_ne (ne_of_none ha h)]
  exact e a u ha
theorem ExS.seq {K : PySem.W.Frag} {st : Addr} {H H' : Hp} {a : Addr} {xs : List V} (n : a ≠ st) (e : ExS st H H') (h : SqL K H a xs) : SqL K H' a xs := by
  rcases h with (h | ⟨o, h⟩) | h
  · exact .inl (.inl (e _ _ n h))
  · exact .inl (.inr ⟨o, e _ _ n h⟩)
  · exact .inr h
/-! ### data -/
inductive D where
  | non
  | bl (b : Bool)
  | int (i : Int)
  | str (z : Str)
  | tup (ds : List D)
  | lst (ds : List D)
  | dct
mutual
inductive TD (st : Addr) (H : Hp) : V → D → Prop
  | non : TD st H .non .non
  | bl (b : Bool) : TD st H (.bl b) (.bl b)
  | int (i : Int) : TD st H (.int i) (.int i)
  | str (z : Str) : TD st H (.str z) (.str z)
  | tup {a : Addr} {xs : List V} {ds : List D} : a ≠ st → H a = some (.tup xs) → TDs st H xs ds → TD st H (.ref a) (.tup ds)
  | lst {a : Addr} {xs : List V} {ds : List D} : a ≠ st → H a = some (.lst xs) → TDs st H xs ds → TD st H (.ref a) (.lst ds)
  | dct {a : Addr} : a ≠ st → H a = some (.dK []) → TD st H (.ref a) .dct
inductive TDs (st : Addr) (H : Hp) : List V → List D → Prop
  | nil : TDs st H [] []
  | cons {v : V} {vs : List V} {d : D} {ds : List D} : TD st H v d → TDs st H vs ds → TDs st H (v :: vs) (d :: ds)
end
mutual
theorem TD.mono {st : Addr} {H H' : Hp} (e : ExS st H H') : ∀ {v : V} {d : D}, TD st H v d → TD st H' v d
  | _, _, .non => .non
  | _, _, .bl b => .bl b
  | _, _, .int i => .int i
  | _, _, .str z => .str z
  | _, _, .tup n h t => .tup n (e _ _ n h) (TDs.mono e t)
  | _, _, .lst n h t => .lst n (e _ _ n h) (TDs.mono e t)
  | _, _, .dct n h => .dct n (e _ _ n h)
theorem TDs.mono {st : Addr} {H H' : Hp} (e : ExS st H H') : ∀ {vs : List V} {ds : List D}, TDs st H vs ds → TDs st H' vs ds
  | _, _, .nil => .nil
  | _, _, .cons h t => .cons (TD.mono e h) (TDs.mono e t)
end
theorem TDs.length {st : Addr} {H : Hp} : ∀ {vs : List V} {ds : List D}, TDs st H vs ds → vs.length = ds.length
  | _, _, .nil => rfl
  | _, _, .cons _ t => congrArg (· + 1) t.length
theorem TDs.get {st : Addr} {H : Hp} : ∀ {vs : List V} {ds : List D} {i : Nat} {v : V}, TDs st H vs ds → vs[i]? = some v → ∃ d, ds[i]? = some d ∧ TD st H v d
  | _, _, i, _, .nil, h => by simp at h
  | _, _, 0, _, .cons h _, e => by
    have e' := Option.some.inj e
    subst e'
    exact ⟨_, rfl, h⟩
  | _, _, i + 1, _, .cons _ t, e => t.get (i := i) e
theorem TDs.append {st : Addr} {H : Hp} : ∀ {vs ws : List V} {ds es : List D}, TDs st H vs ds → TDs st H ws es → TDs st H (vs ++ ws) (ds ++ es)
  | _, _, _, _, .nil, h => h
  | _, _, _, _, .cons h t, r => .cons h (t.append r)
theorem TDs.drop {st : Addr} {H : Hp} : ∀ {vs : List V} {ds : List D} (n : Nat), TDs st H vs ds → TDs st H (vs.drop n) (ds.drop n)
  | _, _, 0, h => h
  | _, _, _ + 1, .nil => .nil
  | _, _, n + 1, .cons _ t => t.drop n
theorem TDs.take {st : Addr} {H : Hp} : ∀ {vs : List V} {ds : List D} (n : Nat), TDs st H vs ds → TDs st H (vs.take n) (ds.take n)
  | _, _, 0, _ => .nil
  | _, _, _ + 1, .nil => .nil
  | _, _, n + 1, .cons h t => .cons h (t.take n)
theorem TDs.rev {st : Addr} {H : Hp} : ∀ {vs : List V} {ds : List D}, TDs st H vs ds → TDs st H vs.reverse ds.reverse
  | _, _, .nil => .nil
  | _, _, .cons h t => by
    rw [List.reverse_cons, List.reverse_cons]
    exact t.rev.append (.cons h .nil)
theorem TDs.rep {st : Addr} {H : Hp} {v : V} {d : D} (h : TD st H v d) : ∀ n : Nat, TDs st H (List.replicate n v) (List.replicate n d)
  | 0 => .nil
  | n + 1 => .cons h (TDs.rep h n)
theorem TDs.cut {st : Addr} {H : Hp} {vs : List V} {ds : List D} (lo hi : Option Int) (h : TDs st H vs ds) : ∃ es, TDs st H (cutV vs lo hi) es := ⟨_, (h.drop _).take _⟩
def tyD : D → String
  | .non => "NoneType"
  | .bl _ => "bool"
  | .int _ => "int"
  | .str _ => "str"
  | .tup _ => "tuple"
  | .lst _ => "list"
  | .dct => "dict"
theorem TD.ty {K : PySem.W.Frag} {st : Addr} {H : Hp} {v : V} {d : D} (h : TD st H v d) : TyX K H v (.type (tyD d)) := by
  cases h with
  | non => exact .base .non
  | bl b => exact .base (.bl b)
  | int i => exact .base (.int i)
  | str z => exact .base (.str z)
  | tup n h t => exact .base (.tup h)
  | lst n h t => exact .base (.lst h)
  | dct n h => exact .base (.dK h)
def isInt : D → Bool
  | .bl _ => true
  | .int _ => true
  | _ => false
def isBool : D → Bool
  | .bl _ => true
  | _ => false
def isStr : D → Bool
  | .str _ => true
  | _ => false
def isTup : D → Bool
  | .tup _ => true
  | _ => false
def isLst : D → Bool
  | .lst _ => true
  | _ => false
theorem kit_int (d : D) : kitB (tyD d) "int" = some (isInt d) := by
  cases d with
  | non => exact (show kitB "NoneType" "int" = some false by decide +kernel)
  | bl _ => exact (show kitB "bool" "int" = some true by decide +kernel)
  | int _ => exact (show kitB "int" "int" = some true by decide +kernel)
  | str _ => exact (show kitB "str" "int" = some false by decide +kernel)
  | tup _ => exact (show kitB "tuple" "int" = some false by decide +kernel)
  | lst _ => exact (show kitB "list" "int" = some false by decide +kernel)
  | dct => exact (show kitB "dict" "int" = some false by decide +kernel)
theorem kit_bool (d : D) : kitB (tyD d) "bool" = some (isBool d) := by
  cases d with
  | non => exact (show kitB "NoneType" "bool" = some false by decide +kernel)
  | bl _ => exact (show kitB "bool" "bool" = some true by decide +kernel)
  | int _ => exact (show kitB "int" "bool" = some false by decide +kernel)
  | str _ => exact (show kitB "str" "bool" = some false by decide +kernel)
  | tup _ => exact (show kitB "tuple" "bool" = some false by decide +kernel)
  | lst _ => exact (show kitB "list" "bool" = some false by decide +kernel)
  | dct => exact (show kitB "dict" "bool" = some false by decide +kernel)
theorem kit_str (d : D) : kitB (tyD d) "str" = some (isStr d) := by
  cases d with
  | non => exact (show kitB "NoneType" "str" = some false by decide +kernel)
  | bl _ => exact (show kitB "bool" "str" = some false by decide +kernel)
  | int _ => exact (show kitB "int" "str" = some false by decide +kernel)
  | str _ => exact (show kitB "str" "str" = some true by decide +kernel)
  | tup _ => exact (show kitB "tuple" "str" = some false by decide +kernel)
  | lst _ => exact (show kitB "list" "str" = some false by decide +kernel)
  | dct => exact (show kitB "dict" "str" = some false by decide +kernel)
theorem kit_tup (d : D) : kitB (tyD d) "tuple" = some (isTup d) := by
  cases d with
  | non => exact (show kitB "NoneType" "tuple" = some false by decide +kernel)
  | bl _ => exact (show kitB "bool" "tuple" = some false by decide +kernel)
  | int _ => exact (show kitB "int" "tuple" = some false by decide +kernel)
  | str _ => exact (show kitB "str" "tuple" = some false by decide +kernel)
  | tup _ => exact (show kitB "tuple" "tuple" = some true by decide +kernel)
  | lst _ => exact (show kitB "list" "tuple" = some false by decide +kernel)
  | dct => exact (show kitB "dict" "tuple" = some false by decide +kernel)
theorem kit_lst (d : D) : kitB (tyD d) "list" = some (isLst d) := by
  cases d with
  | non => exact (show kitB "NoneType" "list" = some false by decide +kernel)
  | bl _ => exact (show kitB "bool" "list" = some false by decide +kernel)
  | int _ => exact (show kitB "int" "list" = some false by decide +kernel)
  | str _ => exact (show kitB "str" "list" = some false by decide +kernel)
  | tup _ => exact (show kitB "tuple" "list" = some false by decide +kernel)
  | lst _ => exact (show kitB "list" "list" = some true by decide +kernel)
  | dct => exact (show kitB "dict" "list" = some false by decide +kernel)
theorem isi {K : PySem.W.Frag} {st : Addr} {H : Hp} {v : V} {d : D} {n : String} {b : Bool} {Q : VK} (h : TD st H v d) (k : kitB (tyD d) n = some b) (q : Q (.bl b) H) : rIsi K [v, .ty n] H Q :=
  ⟨v, .ty n, _, _, b, rfl, .ty n, h.ty, kit_ty k, q⟩
/-! ### steps -/
abbrev Pr := Str × Int
def stepD (p : Pr) : D := .tup [.str p.1, .int p.2]
def wR : Str := "read"
def wW : Str := "write"
def wordB (z : Str) : Bool := decide (z = wR) || decide (z = wW)
def boxB (i : Int) : Bool := decide (0 ≤ i) && decide (i ≤ 100000000)
def asPr : D → Option Pr
  | .tup [.str z, .int i] => if wordB z && boxB i then some (z, i) else none
  | _ => none
def isStep (d : D) : Bool := (asPr d).isSome
theorem asPr_some {d : D} {p : Pr} (h : asPr d = some p) : d = stepD p ∧ wordB p.1 = true ∧ boxB p.2 = true := by
  unfold asPr at h
  split at h
  · split at h
    · rename_i z i hc
      have e := Option.some.inj h
      subst e
      rw [Bool.and_eq_true] at hc
      exact ⟨rfl, hc.1, hc.2⟩
    · cases h
  · cases h
theorem asPr_step {p : Pr} (h1 : wordB p.1 = true) (h2 : boxB p.2 = true) : asPr (stepD p) = some p := by
  show (if (wordB p.1 && boxB p.2) = true then some (p.1, p.2) else none) = some p
  rw [h1, h2]
  rfl
/-- the place of a step among those ahead: what the program asks, and what the law does -/
def mayP (p : Pr) (l : List Pr) : Bool := !decide (p ∈ l) && !decide ((wW, p.2) ∈ l)
def mayL (p : Pr) (l : List Pr) : Bool := !decide (p ∈ l) && !(decide (p.1 = wR) && decide ((wW, p.2) ∈ l))
theorem may_eq {p : Pr} (h : wordB p.1 = true) (l : List Pr) : mayP p l = mayL p l := by
  unfold mayP mayL
  obtain ⟨z, i⟩ := p
  unfold wordB at h
  rw [Bool.or_eq_true, decide_eq_true_eq, decide_eq_true_eq] at h
  rcases h with h | h
  · have h' : z = wR := h
    subst h'
    rw [decide_eq_true (show (wR, i).1 = wR from rfl), Bool.true_and]
  · have h' : z = wW := h
    subst h'
    have n : ¬ (wW = wR) := by decide
    rw [decide_eq_false (show ¬ (wW, i).1 = wR from n), Bool.false_and]
    cases hd : decide ((wW, i) ∈ l) <;> simp_all
/-- the pairs of a list of steps -/
def prs : List D → Option (List Pr)
  | [] => some []
  | d :: ds => match asPr d, prs ds with
    | some p, some l => some (p :: l)
    | _, _ => none
theorem prs_some : ∀ {ds : List D} {l : List Pr}, prs ds = some l → ds = l.map stepD ∧ (∀ p ∈ l, wordB p.1 = true ∧ boxB p.2 = true)
  | [], l, h => by
    have e : [] = l := Option.some.inj h
    subst e
    exact ⟨rfl, fun p hp => by cases hp⟩
  | d :: ds, l, h => by
    unfold prs at h
    split at h
    · rename_i p r h1 h2
      have e := Option.some.inj h
      subst e
      obtain ⟨e1, w1, b1⟩ := asPr_some h1
      obtain ⟨e2, w2⟩ := prs_some h2
      refine ⟨by rw [e1, e2]; rfl, fun q hq => ?_⟩
      rcases List.mem_cons.mp hq with e | e
      · rw [e]; exact ⟨w1, b1⟩
      · exact w2 q e
    · cases h
theorem prs_isSome : ∀ ds : List D, (prs ds).isSome = ds.all isStep
  | [] => rfl
  | d :: ds => by
    have ih := prs_isSome ds
    rw [List.all_cons, ← ih]
    show (match asPr d, prs ds with | some p, some l => some (p :: l) | _, _ => none).isSome = (isStep d && (prs ds).isSome)
    cases h1 : asPr d with
    | none =>
      have e : isStep d = false := by unfold isStep; rw [h1]; rfl
      rw [e, Bool.false_and]
      rfl
    | some p =>
      have e : isStep d = true := by unfold isStep; rw [h1]; rfl
      rw [e, Bool.true_and]
      cases h2 : prs ds with
      | none => rfl
      | some l => rfl
theorem prs_of {l : List Pr} (h : ∀ p ∈ l, wordB p.1 = true ∧ boxB p.2 = true) : prs (l.map stepD) = some l := by
  induction l with
  | nil => rfl
  | cons p l ih =>
    have hp := h p (List.mem_cons_self ..)
    rw [List.map_cons]
    unfold prs
    rw [asPr_step hp.1 hp.2, ih fun q hq => h q (List.mem_cons_of_mem _ hq)]
/-- all places may follow -/
def follow (m : Pr → List Pr → Bool) (l : List Pr) : Bool := (List.range l.length).all fun i => match l[i]? with
  | some p => m p (l.take i)
  | none => true
def isDealing : D → Bool
  | .tup ds => decide (1 ≤ ds.length) && decide (ds.length ≤ 8) && match prs ds with
    | some l => follow mayP l
    | none => false
  | _ => false
def areDealings : D → Bool
  | .lst ds => decide (1 ≤ ds.length) && decide (ds.length ≤ 100) && ds.all isDealing
  | _ => false
/-! ### steps as the library's data -/
def stepP (p : Pr) : PyData := .tuple [.str p.1, .int p.2]
theorem word_ok {z : Str} (h : wordB z = true) : PyData.strOk z = true := by
  unfold wordB at h
  rw [Bool.or_eq_true, decide_eq_true_eq, decide_eq_true_eq] at h
  rcases h with h | h
  · subst h; decide +kernel
  · subst h; decide +kernel
theorem stepP_lay {p : Pr} (h : wordB p.1 = true) : (stepP p).canLay0 = true := by simp [stepP, PyData.canLay0, PyData.canLayAll0, word_ok h]
theorem stepP_depth (p : Pr) : (stepP p).depth = 1 := by simp [stepP, PyData.depth, PyData.depthAll]
theorem stepPs_lay : ∀ {l : List Pr}, (∀ p ∈ l, wordB p.1 = true) → PyData.canLayAll0 (l.map stepP) = true
  | [], _ => by simp [PyData.canLayAll0]
  | p :: l, h => by simp [PyData.canLayAll0, stepP_lay (h p (List.mem_cons_self ..)), stepPs_lay fun q hq => h q (List.mem_cons_of_mem _ hq)]
theorem stepPs_depth : ∀ l : List Pr, PyData.depthAll (l.map stepP) ≤ 1
  | [] => by simp [PyData.depthAll]
  | p :: l => by
    have h1 := stepPs_depth l
    have h2 := stepP_depth p
    simp only [List.map_cons, PyData.depthAll]
    omega
theorem stepP_shaped {p : Pr} (hw : wordB p.1 = true) : SeqAt.shaped (stepP p) = true := by
  have h := stepP_depth p
  show ((stepP p).canLay0 && decide ((stepP p).depth ≤ 64)) = true
  rw [Bool.and_eq_true]
  exact ⟨stepP_lay hw, decide_eq_true (by omega)⟩
theorem stepPs_shapedT {l : List Pr} (hw : ∀ p ∈ l, wordB p.1 = true) : SeqAt.shaped (.tuple (l.map stepP)) = true := by
  have h1 := stepPs_depth l
  have h2 : PyData.depth (.tuple (l.map stepP)) ≤ 64 := by
    simp only [PyData.depth]
    omega
  show (PyData.canLay0 (.tuple (l.map stepP)) && decide (PyData.depth (.tuple (l.map stepP)) ≤ 64)) = true
  rw [Bool.and_eq_true]
  exact ⟨by simp only [PyData.canLay0]; exact stepPs_lay hw, decide_eq_true h2⟩
theorem stepPs_shapedL {l : List Pr} (hw : ∀ p ∈ l, wordB p.1 = true) : SeqAt.shaped (.list (l.map stepP)) = true := by
  have h1 := stepPs_depth l
  have h2 : PyData.depth (.list (l.map stepP)) ≤ 64 := by
    simp only [PyData.depth]
    omega
  show (PyData.canLay0 (.list (l.map stepP)) && decide (PyData.depth (.list (l.map stepP)) ≤ 64)) = true
  rw [Bool.and_eq_true]
  exact ⟨by simp only [PyData.canLay0]; exact stepPs_lay hw, decide_eq_true h2⟩
theorem stepP_eqv (p q : Pr) : PyData.eqv (stepP p) (stepP q) = decide (p = q) := by
  obtain ⟨z, i⟩ := p
  obtain ⟨y, j⟩ := q
  have e : PyData.eqv (stepP (z, i)) (stepP (y, j)) = ((z == y) && ((i == j) && true)) := by simp only [stepP, PyData.eqv, PyData.eqvAll]
  rw [e]
  by_cases h1 : z = y
  · by_cases h2 : i = j
    · subst h1 h2
      simp
    · have q : (i == j) = false := beq_eq_false_iff_ne.mpr h2
      rw [q, Bool.false_and, Bool.and_false, decide_eq_false]
      intro z
      exact h2 (Prod.mk.inj z).2
  · have q : (z == y) = false := beq_eq_false_iff_ne.mpr h1
    rw [q, Bool.false_and, decide_eq_false]
    intro z
    exact h1 (Prod.mk.inj z).1
theorem any_step (l : List Pr) (p : Pr) : ((l.map stepP).any fun z => PyData.eqv z (stepP p)) = decide (p ∈ l) := by
  induction l with
  | nil => simp
  | cons q l ih =>
    rw [List.map_cons, List.any_cons, ih, stepP_eqv]
    by_cases h1 : q = p
    · subst h1
      simp
    · have h1' : ¬ p = q := fun e => h1 e.symm
      rw [decide_eq_false h1, Bool.false_or]
      exact decide_eq_decide.mpr ⟨fun h => List.mem_cons_of_mem _ h, fun h => (List.mem_cons.mp h).resolve_left h1'⟩
theorem TD.stepDp {K : PySem.W.Frag} {st : Addr} {H : Hp} {v : V} {p : Pr} (h : TD st H v (stepD p)) : Dp K H v (stepP p) := by
  cases h with
  | tup n h t =>
    cases t with
    | cons h1 t =>
      cases t with
      | cons h2 t =>
        cases t
        cases h1
        cases h2
        exact .tup (.inl (.inl h)) (.cons (.str _) (.cons (.int _) .nil))
theorem TDs.stepsDp {K : PySem.W.Frag} {st : Addr} {H : Hp} : ∀ {l : List Pr} {vs : List V}, TDs st H vs (l.map stepD) → DpAll K H vs (l.map stepP)
  | [], _, h => by
    cases h
    exact .nil
  | p :: l, _, h => by
    cases h with
    | cons h t => exact .cons h.stepDp t.stepsDp
theorem TD.stepV {st : Addr} {H : Hp} {v : V} {p : Pr} (h : TD st H v (stepD p)) : ∃ b, v = .ref b ∧ b ≠ st ∧ H b = some (.tup [.str p.1, .int p.2]) := by
  cases h with
  | @tup b ys _ n h t =>
    cases t with
    | cons h1 t =>
      cases t with
      | cons h2 t =>
        cases t
        cases h1
        cases h2
        exact ⟨b, rfl, n, h⟩
theorem TDs.stepsT {st : Addr} {H H' : Hp} (e : ∀ a ys, a ≠ st → H a = some (.tup ys) → H' a = some (.tup ys)) : ∀ {l : List Pr} {vs : List V}, TDs st H vs (l.map stepD) → TDs st H' vs (l.map stepD)
  | [], _, h => by
    cases h
    exact .nil
  | p :: l, _, h => by
    cases h with
    | cons h t =>
      obtain ⟨b, rfl, n, hb⟩ := h.stepV
      exact .cons (.tup n (e _ _ n hb) (.cons (.str _) (.cons (.int _) .nil))) (t.stepsT e)
end As

namespace As
open PySem PySem.Spec PyProof.Rows L2
theorem hu65 {A : Around} {k : Nat} (hr : Room k A) : A.units + 65 < cLine := by have := hr.un; omega
theorem sl_of {n : Nat} (h : n ≤ 100000) : n ≤ sizeLine := Nat.le_trans h (by decide)
theorem sl_lt {n : Nat} (h : n < 100000) : n < sizeLine := Nat.lt_of_lt_of_le h (by decide)
def kept (n : Nat) (t : Nat → Bool) (f : Nat → V) : List V := ((List.range n).filter t).map f
theorem kept_succ (n : Nat) (t : Nat → Bool) (f : Nat → V) : kept (n + 1) t f = kept n t f ++ (if t n then [f n] else []) := by
  unfold kept
  rw [List.range_succ, List.filter_append, List.map_append]
  cases h : t n <;> simp [h]
theorem kept_len (n : Nat) (t : Nat → Bool) (f : Nat → V) : (kept n t f).length ≤ n := by
  unfold kept
  rw [List.length_map]
  have h := List.length_filter_le t (List.range n)
  rw [List.length_range] at h
  exact h
theorem kept_all (n : Nat) (f : Nat → V) : kept n (fun _ => true) f = (List.range n).map f := by
  unfold kept
  congr 1
  exact List.filter_eq_self.mpr fun _ _ => rfl
/-- a comprehension that changes nothing that was there: what it keeps -/
theorem lc_kept {J : It} {n : Nat} {G : Hp → Prop} {Y : Nat → Hp → V → Hp → Prop} (w : Walk J n G Y) {g : TG} {tt : TT} {te : TE} {vs : List Nat} {σ : L2.St} {H1 : Hp} {D : Addr} {Qd : Hp → Prop} (t : Nat → Bool) (f : Nat → V) (hD : H1 D = none) (hn : n ≤ 10000) (hG : ∀ H, Same H1 H → G H)
    (hs : ∀ i x H H' (N : Hp → Prop) (R : VK), i < n → Same H1 H → Y i H x H' → (t i = false → ∀ H'', Same H H'' → N H'') → (t i = true → ∀ H'', Same H H'' → R (f i) H'') →
      g x (wipe σ vs) H' fun σ2 H2 => wipe σ2 vs = wipe σ vs ∧ tt σ2 H2 fun b H3 => if b = true then te σ2 H3 R else N H3)
    (hd : ∀ H, Same H1 H → H D = some (.lst (kept n t f)) → Qd H) :
    ∃ W : Nat → Nat → Hp → Prop, (∃ m, W 0 m (upd H1 D (.lst []))) ∧ ∀ i m H, W i m H →
      (J.stop i H ∧ Qd H) ∨ (J.go i H ∧ ∃ Nx : Hp → Prop, (∀ H', Nx H' → ∃ m', m' < m ∧ W (i + 1) m' H') ∧ ∀ x H', J.yld i H x H' → g x (wipe σ vs) H' fun σ2 H2 => wipe σ2 vs = wipe σ vs ∧ tt σ2 H2 fun b H3 =>
        if b = true then te σ2 H3 fun y H4 => ∃ acc, H4 D = some (.lst acc) ∧ acc.length < sizeLine ∧ Nx (upd H4 D (.lst (acc ++ [y]))) else Nx H3) := by
  refine lc_it w (fun i H => Same H1 H ∧ H D = some (.lst (kept i t f))) ⟨same_new hD, upd_same⟩ (fun i H _ p => hG H p.1) (fun i x H H' hi p y => ?_) (fun H p => hd H p.1 p.2)
  obtain ⟨p1, p2⟩ := p
  refine hs i x H H' _ _ hi p1 y (fun ht H'' e => ⟨Same.trans p1 e, ?_⟩) (fun ht H'' e => ⟨kept i t f, e _ _ p2, sl_lt (by have := kept_len i t f; omega), Same.mut (Same.trans p1 e) hD, ?_⟩)
  · rw [kept_succ, ht, if_neg Bool.false_ne_true, List.append_nil]
    exact e _ _ p2
  · rw [kept_succ, ht, if_pos rfl]
    exact upd_same
theorem yesI {te : TE} {σ : L2.St} {H : Hp} {R : VK} {N : Hp → Prop} (h : te σ H R) : tYes σ H fun b H3 => if b = true then te σ H3 R else N H3 := by
  show if true = true then te σ H R else N H
  exact iteT h
theorem isDealing_eq (ds : List D) : isDealing (.tup ds) = (decide (1 ≤ ds.length) && decide (ds.length ≤ 8) && match prs ds with | some l => follow mayP l | none => false) := rfl
theorem areDealings_eq (ds : List D) : areDealings (.lst ds) = (decide (1 ≤ ds.length) && decide (ds.length ≤ 100) && ds.all isDealing) := rfl
end As

namespace As
open PySem PySem.Spec PyProof.Rows L2
theorem follow_get {m : Pr → List Pr → Bool} {l : List Pr} (h : follow m l = true) {i : Nat} {p : Pr} (hp : l[i]? = some p) : m p (l.take i) = true := by
  unfold follow at h
  rw [List.all_eq_true] at h
  have := h i (List.mem_range.mpr (List.getElem?_eq_some_iff.mp hp).1)
  rw [hp] at this
  exact this
theorem follow_mk {m : Pr → List Pr → Bool} {l : List Pr} (h : ∀ i p, l[i]? = some p → m p (l.take i) = true) : follow m l = true := by
  unfold follow
  rw [List.all_eq_true]
  intro i _
  cases hp : l[i]? with
  | none => rfl
  | some p => exact h i p hp
theorem follow_snoc {m : Pr → List Pr → Bool} {l : List Pr} {p : Pr} (h : follow m l = true) (hp : m p l = true) : follow m (l ++ [p]) = true := by
  refine follow_mk fun i q hq => ?_
  by_cases hi : i < l.length
  · rw [List.getElem?_append_left hi] at hq
    rw [List.take_append_of_le_length (by omega)]
    exact follow_get h hq
  · have ei : i = l.length := by
      have h1 := (List.getElem?_eq_some_iff.mp hq).1
      rw [List.length_append] at h1
      have h2 : ([p] : List Pr).length = 1 := rfl
      omega
    subst ei
    rw [List.getElem?_append_right (Nat.le_refl _), Nat.sub_self] at hq
    have e : p = q := Option.some.inj hq
    subst e
    rw [List.take_append_of_le_length (Nat.le_refl _), List.take_of_length_le (Nat.le_refl _)]
    exact hp
/-- at most two steps of a box -/
theorem two_of_box {m : List Pr} (hf : follow mayP m = true) (hw : ∀ p ∈ m, wordB p.1 = true) (b : Int) (t : Pr → Bool) (ht : ∀ q, t q = true → q.2 = b) : (m.filter t).length ≤ 2 := by
  have nd : m.Pairwise (fun p q => p ≠ q) := by
    rw [List.pairwise_iff_getElem]
    intro i j hi hj hij e
    have h1 := follow_get hf (List.getElem?_eq_getElem hj)
    unfold mayP at h1
    rw [Bool.and_eq_true, Bool.not_eq_true', decide_eq_false_iff_not] at h1
    refine h1.1 ?_
    rw [← e]
    exact List.mem_take_iff_getElem.mpr ⟨i, by omega, rfl⟩
  have nf := nd.filter t
  have mem : ∀ q ∈ m.filter t, q = (wR, b) ∨ q = (wW, b) := fun q hq => by
    have h1 := List.mem_filter.mp hq
    have h2 := ht q h1.2
    have h3 := hw q h1.1
    unfold wordB at h3
    rw [Bool.or_eq_true, decide_eq_true_eq, decide_eq_true_eq] at h3
    rcases h3 with h3 | h3
    · exact .inl (Prod.ext h3 h2)
    · exact .inr (Prod.ext h3 h2)
  match hF : m.filter t, nf, mem with
  | [], _, _ => exact Nat.zero_le _
  | [_], _, _ => exact (by decide : 1 ≤ 2)
  | [_, _], _, _ => exact Nat.le_refl 2
  | x :: y :: z :: r, nf, mem =>
    exfalso
    rw [List.pairwise_cons, List.pairwise_cons] at nf
    obtain ⟨n1, n2, _⟩ := nf
    have xy := n1 y (by simp)
    have xz := n1 z (by simp)
    have yz := n2 z (by simp)
    have mx := mem x (by simp)
    have my := mem y (by simp)
    have mz := mem z (by simp)
    rcases mx with mx | mx <;> rcases my with my | my <;> rcases mz with mz | mz <;> simp_all
end As

namespace As
open PySem PySem.Spec PyProof.Rows L2
def topS (i : Nat) : Stmt := PySem.Challenge.pw_asifalone_k16_number_of_what_is_none.main.body.getD i (.Pass ⟨0, 0, 0, 0⟩)
abbrev sIsWhole : Stmt := topS 10
abbrev sIsNumber : Stmt := topS 11
abbrev sIsBox : Stmt := topS 12
abbrev sIsOneOf : Stmt := topS 13
abbrev sIsStep : Stmt := topS 14
abbrev sMayFollow : Stmt := topS 15
abbrev sIsDealing : Stmt := topS 16
abbrev sAreDealings : Stmt := topS 17
theorem scIsWhole : FnScope ["thing"] ["thing"] (defScope sIsWhole) := ⟨rfl, rfl, rfl, by decide +kernel, rfl, by decide +kernel, by decide +kernel⟩
theorem scIsNumber : FnScope ["thing", "many"] ["thing", "many"] (defScope sIsNumber) := ⟨rfl, rfl, rfl, by decide +kernel, rfl, by decide +kernel, by decide +kernel⟩
theorem scIsBox : FnScope ["thing"] ["thing"] (defScope sIsBox) := ⟨rfl, rfl, rfl, by decide +kernel, rfl, by decide +kernel, by decide +kernel⟩
theorem scIsOneOf : FnScope ["thing", "words"] ["thing", "words"] (defScope sIsOneOf) := ⟨rfl, rfl, rfl, by decide +kernel, rfl, by decide +kernel, by decide +kernel⟩
theorem scIsStep : FnScope ["thing"] ["thing"] (defScope sIsStep) := ⟨rfl, rfl, rfl, by decide +kernel, rfl, by decide +kernel, by decide +kernel⟩
theorem scMayFollow : FnScope ["step", "ahead"] ["step", "ahead"] (defScope sMayFollow) := ⟨rfl, rfl, rfl, by decide +kernel, rfl, by decide +kernel, by decide +kernel⟩
theorem scIsDealing : FnScope ["thing", "step", "place"] ["thing"] (defScope sIsDealing) := ⟨rfl, rfl, rfl, by decide +kernel, rfl, by decide +kernel, by decide +kernel⟩
theorem scAreDealings : FnScope ["thing", "dealing"] ["thing"] (defScope sAreDealings) := ⟨rfl, rfl, rfl, by decide +kernel, rfl, by decide +kernel, by decide +kernel⟩
/-- what the module's names hold -/
structure Mg (mg : Str → Option Value) : Prop where
  isinstance : mg "isinstance" = none
  int : mg "int" = none
  bool : mg "bool" = none
  str : mg "str" = none
  tuple : mg "tuple" = none
  list : mg "list" = none
  len : mg "len" = none
  all : mg "all" = none
  sum : mg "sum" = none
  enumerate : mg "enumerate" = none
  range : mg "range" = none
  max : mg "max" = none
  min : mg "min" = none
  box : ∃ t, mg "MOST_BOX" = some (.int 100000000 t)
  steps : ∃ t, mg "MOST_STEPS" = some (.int 8 t)
  dealings : ∃ t, mg "MOST_DEALINGS" = some (.int 100 t)
section
variable {P : Program} {w : World} {K : PySem.W.Frag} {mg : Str → Option Value} {base : Heap}
/-! ### is_whole -/
def wholeB (d : D) : Bool := isInt d && !isBool d
def spIsWhole : Sp := fun vs H Q _ => ∃ st v d, vs = [v] ∧ TD st H v d ∧ Q (.bl (wholeB d)) H
theorem ok_is_whole {f : Addr} {fd : FuncData} {k : Nat} (F : Fun K "is_whole" "is_whole" sIsWhole f fd) (M : Mg mg) : FnOk P w K mg base CX0 (k + 1) f fd ["thing"] spIsWhole := by
  refine F.ok scIsWhole (fun vs H Q E h => ?_) (fun cdv A outer s H vs Q E hr h => ?_)
  · obtain ⟨st, v, d, rfl, _⟩ := h
    rfl
  · obtain ⟨st, v, d, rfl, td, q⟩ := h
    refine ⟨_, pss_one (ps_ret (pe_and (pe_callB call_isi (by rfl) M.isinstance (by decide +kernel) (pa_cons (pv 0) (pa_cons (pe_bltn (v := .ty "int") (by rfl) M.int (by decide +kernel) rfl) pa_nil)))
      (pe_one (pe_not (pe_callB call_isi (by rfl) M.isinstance (by decide +kernel) (pa_cons (pv 0) (pa_cons (pe_bltn (v := .ty "bool") (by rfl) M.bool (by decide +kernel) rfl) pa_nil))))))), ?_⟩
    refine ⟨v, rfl, v, .ty "int", _, _, _, rfl, .ty _, td.ty, kit_ty (kit_int d), _, rfl, ?_⟩
    unfold wholeB at q
    cases hi : isInt d with
    | true =>
      rw [hi] at q
      exact iteT ⟨v, rfl, v, .ty "bool", _, _, _, rfl, .ty _, td.ty, kit_ty (kit_bool d), _, rfl, q⟩
    | false =>
      rw [hi] at q
      exact iteF q
theorem whole_int {d : D} (h : wholeB d = true) : ∃ i, d = .int i := by
  cases d with
  | int i => exact ⟨i, rfl⟩
  | _ => exact absurd h Bool.false_ne_true
/-! ### is_number -/
def numB : D → Int → Bool
  | .int i, m => decide (0 ≤ i) && decide (i < m)
  | _, _ => false
theorem num_no {d : D} {m : Int} (h : wholeB d = false) : numB d m = false := by
  cases d with
  | int i => exact absurd h.symm Bool.false_ne_true
  | _ => rfl
def spIsNumber : Sp := fun vs H Q _ => ∃ st v d m, vs = [v, .int m] ∧ TD st H v d ∧ Q (.bl (numB d m)) H
theorem ok_is_number {f f1 : Addr} {fd fd1 : FuncData} {k : Nat} (F : Fun K "is_number" "is_number" sIsNumber f fd) (M : Mg mg) (G1 : FnOk P w K mg base CX0 k f1 fd1 ["thing"] spIsWhole) (g1 : mg "is_whole" = some (.ref f1)) (k1 : PySem.W.keepIn K (.ref f1) = true) (b1 : Binds K fd1 ["thing"] []) :
    FnOk P w K mg base CX0 (k + 1) f fd ["thing", "many"] spIsNumber := by
  refine F.ok scIsNumber (fun vs H Q E h => ?_) (fun cdv A outer s H vs Q E hr h => ?_)
  · obtain ⟨st, v, d, m, rfl, _⟩ := h
    rfl
  · obtain ⟨st, v, d, m, rfl, td, q⟩ := h
    refine ⟨_, pss_one (ps_ret (pe_and (pe_call G1 hr (by rfl) g1 k1 b1 .nil pass0 (pa_cons (pv 0) pa_nil))
      (pe_one (pe_chain op_le op_lt pe_int (pv 0) (pv 1))))), ?_⟩
    refine ⟨v, rfl, st, v, d, rfl, td, _, rfl, ?_⟩
    cases hw : wholeB d with
    | false =>
      rw [num_no hw] at q
      exact iteF q
    | true =>
      obtain ⟨i, rfl⟩ := whole_int hw
      cases td
      refine iteT ⟨_, rfl, 0, i, rfl, rfl, _, rfl, ?_⟩
      have q' : Q (.bl (decide (0 ≤ i) && decide (i < m))) H := q
      cases h0 : decide (0 ≤ i) with
      | false =>
        rw [h0] at q'
        exact iteF q'
      | true =>
        rw [h0] at q'
        exact iteT ⟨_, rfl, i, m, rfl, rfl, q'⟩
/-! ### is_box -/
def boxD : D → Bool
  | .int i => boxB i
  | _ => false
theorem num_box (d : D) : numB d (100000000 + 1) = boxD d := by
  cases d with
  | int i =>
    show (decide (0 ≤ i) && decide (i < 100000000 + 1)) = (decide (0 ≤ i) && decide (i ≤ 100000000))
    rw [show decide (i < 100000000 + 1) = decide (i ≤ 100000000) from decide_eq_decide.mpr (by omega)]
  | _ => rfl
def spIsBox : Sp := fun vs H Q _ => ∃ st v d, vs = [v] ∧ TD st H v d ∧ Q (.bl (boxD d)) H
theorem ok_is_box {f f1 : Addr} {fd fd1 : FuncData} {k : Nat} (F : Fun K "is_box" "is_box" sIsBox f fd) (M : Mg mg) (G1 : FnOk P w K mg base CX0 k f1 fd1 ["thing", "many"] spIsNumber) (g1 : mg "is_number" = some (.ref f1)) (k1 : PySem.W.keepIn K (.ref f1) = true) (b1 : Binds K fd1 ["thing", "many"] []) :
    FnOk P w K mg base CX0 (k + 1) f fd ["thing"] spIsBox := by
  refine F.ok scIsBox (fun vs H Q E h => ?_) (fun cdv A outer s H vs Q E hr h => ?_)
  · obtain ⟨st, v, d, rfl, _⟩ := h
    rfl
  · obtain ⟨st, v, d, rfl, td, q⟩ := h
    obtain ⟨tb, mb⟩ := M.box
    refine ⟨_, pss_one (ps_ret (pe_call G1 hr (by rfl) g1 k1 b1 .nil pass0 (pa_cons (pv 0) (pa_cons (pe_add (pe_glob (v := .int 100000000) (by rfl) mb ⟨_, rfl⟩) pe_int) pa_nil)))), ?_⟩
    refine ⟨v, rfl, 100000000, 1, rfl, rfl, st, v, d, 100000000 + 1, rfl, td, ?_⟩
    rw [num_box]
    exact q
/-! ### is_one_of -/
def oneB : D → List Str → Bool
  | .str z, ws => decide (z ∈ ws)
  | _, _ => false
theorem inV_str (z : Str) : ∀ ws : List Str, inV (.str z) (ws.map V.str) = decide (z ∈ ws)
  | [] => by simp [inV]
  | y :: ws => by
    have ih := inV_str z ws
    unfold inV at ih ⊢
    rw [List.map_cons, List.any_cons, ih]
    by_cases e : y = z
    · subst e
      simp [eqV]
    · have e' : ¬ z = y := fun q => e q.symm
      have : eqV (.str y) (.str z) = false := by simp [eqV, e]
      rw [this, Bool.false_or]
      exact decide_eq_decide.mpr ⟨fun h => List.mem_cons_of_mem _ h, fun h => (List.mem_cons.mp h).resolve_left e'⟩
theorem flat_strs : ∀ ws : List Str, (ws.map V.str).all flatV = true
  | [] => rfl
  | y :: ws => by
    rw [List.map_cons, List.all_cons, flat_strs ws]
    rfl
def spIsOneOf (K : PySem.W.Frag) : Sp := fun vs H Q _ => ∃ st v d a ws, vs = [v, .ref a] ∧ TD st H v d ∧ SqT K H a (ws.map V.str) ∧ Q (.bl (oneB d ws)) H
theorem ok_is_one_of {f : Addr} {fd : FuncData} {k : Nat} (F : Fun K "is_one_of" "is_one_of" sIsOneOf f fd) (M : Mg mg) : FnOk P w K mg base CX0 (k + 1) f fd ["thing", "words"] (spIsOneOf K) := by
  refine F.ok scIsOneOf (fun vs H Q E h => ?_) (fun cdv A outer s H vs Q E hr h => ?_)
  · obtain ⟨st, v, d, a, ws, rfl, _⟩ := h
    rfl
  · obtain ⟨st, v, d, a, ws, rfl, td, hS, q⟩ := h
    refine ⟨_, pss_one (ps_ret (pe_and (pe_callB call_isi (by rfl) M.isinstance (by decide +kernel) (pa_cons (pv 0) (pa_cons (pe_bltn (v := .ty "str") (by rfl) M.str (by decide +kernel) rfl) pa_nil)))
      (pe_one (pe_cmpR op_in_seq (pv 0) (pv 1) (by rfl))))), ?_⟩
    refine ⟨v, rfl, v, .ty "str", _, _, _, rfl, .ty _, td.ty, kit_ty (kit_str d), _, rfl, ?_⟩
    cases td with
    | str z => exact iteT ⟨_, rfl, _, rfl, a, ws.map V.str, rfl, .inr hS, rfl, flat_strs ws, by
        show Q (.bl (inV (.str z) (ws.map V.str))) H
        rw [inV_str]
        exact q⟩
    | _ => exact iteF q
/-! ### is_step -/
theorem isStep_pair (x y : D) : isStep (.tup [x, y]) = (oneB x [wR, wW] && boxD y) := by
  cases x with
  | str z =>
    cases y with
    | int i =>
      show ((if (wordB z && boxB i) = true then some (z, i) else none).isSome) = (decide (z ∈ [wR, wW]) && boxB i)
      have e : decide (z ∈ [wR, wW]) = wordB z := by
        unfold wordB
        simp
      rw [e]
      cases (wordB z && boxB i) <;> rfl
    | _ =>
      show false = (_ && false)
      rw [Bool.and_false]
  | _ => rfl
theorem isStep_len {ds : List D} (h : ds.length ≠ 2) : isStep (.tup ds) = false := by
  match ds, h with
  | [], _ => rfl
  | [x], _ => cases x <;> rfl
  | [x, y], h => exact absurd rfl h
  | x :: y :: z :: r, _ =>
    cases x with
    | str z => cases y <;> rfl
    | _ => rfl
theorem isStep_tup {d : D} (h : isTup d = false) : isStep d = false := by
  cases d with
  | tup ds => exact absurd h.symm Bool.false_ne_true
  | _ => rfl
def spD (f : D → Bool) : Sp := fun vs H Q _ => ∃ st v d, vs = [v] ∧ TD st H v d ∧ ∀ H', Same H H' → Q (.bl (f d)) H'
theorem ok_is_step {f f1 f2 : Addr} {fd fd1 fd2 : FuncData} {k : Nat} (F : Fun K "is_step" "is_step" sIsStep f fd) (M : Mg mg) (G1 : FnOk P w K mg base CX0 k f1 fd1 ["thing", "words"] (spIsOneOf K)) (g1 : mg "is_one_of" = some (.ref f1)) (k1 : PySem.W.keepIn K (.ref f1) = true) (b1 : Binds K fd1 ["thing", "words"] [])
    (G2 : FnOk P w K mg base CX0 k f2 fd2 ["thing"] spIsBox) (g2 : mg "is_box" = some (.ref f2)) (k2 : PySem.W.keepIn K (.ref f2) = true) (b2 : Binds K fd2 ["thing"] []) :
    FnOk P w K mg base CX0 (k + 1) f fd ["thing"] (spD isStep) := by
  refine F.ok scIsStep (fun vs H Q E h => ?_) (fun cdv A outer s H vs Q E hr h => ?_)
  · obtain ⟨st, v, d, rfl, _⟩ := h
    rfl
  · obtain ⟨st, v, d, rfl, td, q⟩ := h
    refine ⟨_, pss_cons (ps_if (PW.pt (pw_or (pt_not (pt_val (pe_callB call_isi (by rfl) M.isinstance (by decide +kernel) (pa_cons (pv 0) (pa_cons (pe_bltn (v := .ty "tuple") (by rfl) M.tuple (by decide +kernel) rfl) pa_nil)))))
        (pw_or1 (pt_cmpR op_ne (pe_callB call_len_seq (by rfl) M.len PySem.boot_len (pa_cons (pv 0) pa_nil)) pe_int (nomark _))))) (pss_one (ps_ret pe_bl)) pss_nil)
      (pss_one (ps_ret (pe_and (pe_call G1 hr (by rfl) g1 k1 b1 .nil pass0 (pa_cons (pe_ix ix_tup (pv 0) pe_int (fun _ _ => rfl)) (pa_cons (pe_tup (pa_cons pe_str (pa_cons pe_str pa_nil))) pa_nil)))
        (pe_one (pe_call G2 hr (by rfl) g2 k2 b2 .nil pass0 (pa_cons (pe_ix ix_tup (pv 0) pe_int (fun _ _ => rfl)) pa_nil)))))), ?_⟩
    refine ⟨v, rfl, v, .ty "tuple", _, _, _, rfl, .ty _, td.ty, kit_ty (kit_tup d), _, rfl, ?_⟩
    cases ht : isTup d with
    | false =>
      rw [isStep_tup ht] at q
      exact iteT (iteT (q H (Same.refl H)))
    | true =>
      cases td with
      | @tup a xs ds n h t =>
        refine iteF ⟨.ref a, rfl, a, xs, rfl, .inr (SqT.of h), rfl, _, rfl, ?_⟩
        have hl := t.length
        by_cases h2 : xs.length = 2
        · rw [h2]
          refine iteF ?_
          match xs, ds, t, h2 with
          | [x, y], [dx, dy], .cons tx (.cons ty .nil), _ =>
            refine ⟨.ref a, rfl, a, [x, y], 0, x, rfl, rfl, SqT.of h, rfl, by show 2 ≤ sizeLine; decide, fun p np => ?_⟩
            have s1 : Same H (upd H p (.tup [.str wR, .str wW])) := same_new np
            refine ⟨st, x, dx, p, [wR, wW], rfl, tx.mono (.of s1), SqT.of upd_same, _, rfl, ?_⟩
            rw [isStep_pair] at q
            cases ho : oneB dx [wR, wW] with
            | false =>
              rw [ho] at q
              exact iteF (q _ s1)
            | true =>
              rw [ho] at q
              exact iteT ⟨.ref a, rfl, a, [x, y], 1, y, rfl, rfl, SqT.of (s1 _ _ h), rfl, st, y, dy, rfl, ty.mono (.of s1), q _ s1⟩
        · have e : (!decide (V.int (xs.length : Int) = V.int 2)) = true := by
            rw [Bool.not_eq_true', decide_eq_false_iff_not]
            intro z
            have z' : (xs.length : Int) = 2 := V.int.inj z
            exact h2 (by omega)
          rw [e]
          rw [isStep_len (by omega)] at q
          exact iteT (q H (Same.refl H))
      | _ => exact absurd ht Bool.false_ne_true
/-! ### may_follow -/
def spMay : Sp := fun vs H Q _ => ∃ st v p a xs l, vs = [v, .ref a] ∧ TD st H v (stepD p) ∧ H a = some (.tup xs) ∧ TDs st H xs (l.map stepD) ∧ wordB p.1 = true ∧ (∀ q ∈ l, wordB q.1 = true) ∧ ∀ H', Same H H' → Q (.bl (mayP p l)) H'
theorem ok_may_follow {f : Addr} {fd : FuncData} {k : Nat} (F : Fun K "may_follow" "may_follow" sMayFollow f fd) (M : Mg mg) : FnOk P w K mg base CX0 (k + 1) f fd ["step", "ahead"] spMay := by
  refine F.ok scMayFollow (fun vs H Q E h => ?_) (fun cdv A outer s H vs Q E hr h => ?_)
  · obtain ⟨st, v, p, a, xs, l, rfl, _⟩ := h
    rfl
  · obtain ⟨st, v, p, a, xs, l, rfl, td, h, t, wp, wl, q⟩ := h
    refine ⟨_, pss_one (ps_ret (pe_and (pe_cmpR (op_notInDT (hu65 hr)) (pv 0) (pv 1) (by rfl))
      (pe_one (pe_cmpR (op_notInDT (hu65 hr)) (pe_tup (pa_cons pe_str (pa_cons (pe_ix ix_tup (pv 0) pe_int (fun _ _ => rfl)) pa_nil))) (pv 1) (by rfl))))), ?_⟩
    refine ⟨v, rfl, .ref a, rfl, stepP p, l.map stepP, td.stepDp, .tup (SqT.of h) t.stepsDp, stepP_shaped wp, stepPs_shapedT wl, _, rfl, ?_⟩
    rw [any_step]
    unfold mayP at q
    cases h1 : decide (p ∈ l) with
    | true =>
      rw [h1] at q
      exact iteF (q H (Same.refl H))
    | false =>
      rw [h1] at q
      obtain ⟨b, rfl, nb, hb⟩ := td.stepV
      refine iteT ⟨.ref b, rfl, b, [.str p.1, .int p.2], 1, .int p.2, rfl, rfl, SqT.of hb, rfl, by show 2 ≤ sizeLine; decide, fun c nc => ?_⟩
      have s1 : Same H (upd H c (.tup [.str wW, .int p.2])) := same_new nc
      refine ⟨.ref a, rfl, stepP (wW, p.2), l.map stepP, .tup (SqT.of upd_same) (.cons (.str _) (.cons (.int _) .nil)), .tup (SqT.of (s1 _ _ h)) (t.mono (.of s1)).stepsDp, stepP_shaped (show wordB wW = true by decide +kernel), stepPs_shapedT wl, ?_⟩
      rw [any_step]
      exact q _ s1
/-! ### is_dealing -/
theorem map_range {α : Type} (xs : List α) (g : Nat → α) (h : ∀ i x, xs[i]? = some x → g i = x) : (List.range xs.length).map g = xs := by
  apply List.ext_getElem?
  intro i
  rw [List.getElem?_map]
  by_cases hi : i < xs.length
  · rw [List.getElem?_range hi, List.getElem?_eq_getElem hi]
    exact congrArg some (h i _ (List.getElem?_eq_getElem hi))
  · rw [List.getElem?_eq_none (by rw [List.length_range]; omega), List.getElem?_eq_none (by omega)]
    rfl
theorem isDealing_tup {d : D} (h : isTup d = false) : isDealing d = false := by
  cases d with
  | tup ds => exact absurd h.symm Bool.false_ne_true
  | _ => rfl
theorem cut_to (xs : List V) (i : Nat) : cutV xs none (some (i : Int)) = xs.take i := by
  unfold cutV
  rw [HT.sIx_none, HT.sIx_nat, List.drop_zero, Nat.sub_zero]
  by_cases h : i ≤ xs.length
  · rw [Nat.min_eq_left h]
  · rw [Nat.min_eq_right (by omega), List.take_of_length_le (Nat.le_refl _), List.take_of_length_le (by omega)]
theorem all_id_map {α : Type} (g : α → Bool) (xs : List α) : (xs.map g).all id = xs.all g := by
  rw [List.all_map]
  rfl
theorem ok_is_dealing {f f1 f2 : Addr} {fd fd1 fd2 : FuncData} {k : Nat} (F : Fun K "is_dealing" "is_dealing" sIsDealing f fd) (M : Mg mg) (G1 : FnOk P w K mg base CX0 k f1 fd1 ["thing"] (spD isStep)) (g1 : mg "is_step" = some (.ref f1)) (k1 : PySem.W.keepIn K (.ref f1) = true) (b1 : Binds K fd1 ["thing"] [])
    (G2 : FnOk P w K mg base CX0 k f2 fd2 ["step", "ahead"] spMay) (g2 : mg "may_follow" = some (.ref f2)) (k2 : PySem.W.keepIn K (.ref f2) = true) (b2 : Binds K fd2 ["step", "ahead"] []) :
    FnOk P w K mg base CX0 (k + 1) f fd ["thing"] (spD isDealing) := by
  refine F.ok scIsDealing (fun vs H Q E h => ?_) (fun cdv A outer s H vs Q E hr h => ?_)
  · obtain ⟨st, v, d, rfl, _⟩ := h
    rfl
  · obtain ⟨st, v, d, rfl, td, q⟩ := h
    obtain ⟨ts, ms⟩ := M.steps
    refine ⟨_, pss_cons (ps_if (PW.pt (pw_or (pt_not (pt_val (pe_callB call_isi (by rfl) M.isinstance (by decide +kernel) (pa_cons (pv 0) (pa_cons (pe_bltn (v := .ty "tuple") (by rfl) M.tuple (by decide +kernel) rfl) pa_nil)))))
        (pw_or1 (pt_not (pt_chain op_le op_le pe_int (pe_callB call_len_seq (by rfl) M.len PySem.boot_len (pa_cons (pv 0) pa_nil)) (pe_glob (v := .int 8) (by rfl) ms ⟨_, rfl⟩)))))) (pss_one (ps_ret pe_bl)) pss_nil)
      (pss_cons (ps_if (pt_not (pt_val (pe_callB (cr_all rfl) (by rfl) M.all (by decide +kernel) (pa_cons
          (pe_lc (own := [("step", 1)]) (g := gName 1) (by rfl) scIsDealing.nd (pi_tup (pv 0)) (blkOk_by (own := [("step", 1)]) (N := ["thing", "step", "place"]) (sc := defScope sIsDealing) (by decide +kernel))
            (fun _ _ _ _ _ => pg_name (i := 1) scIsDealing.nd rfl (Or.inl rfl)) (fun _ _ _ _ _ => pts_nil) (fun _ _ _ _ _ => pe_call G1 hr (by rfl) g1 k1 b1 .nil pass0 (pa_cons (pv 1) pa_nil))) pa_nil)))) (pss_one (ps_ret pe_bl)) pss_nil)
      (pss_one (ps_ret (pe_callB (cr_all rfl) (by rfl) M.all (by decide +kernel) (pa_cons
          (pe_lc (own := [("place", 2), ("step", 1)]) (g := gTup K 2 (gCons (gName 2) (gCons (gName 1) gNil))) (by rfl) scIsDealing.nd (pi_enumT (by rfl) M.enumerate (pa_cons (pv 0) pa_nil)) (blkOk_by (own := [("place", 2), ("step", 1)]) (N := ["thing", "step", "place"]) (sc := defScope sIsDealing) (by decide +kernel))
            (fun _ _ _ _ _ => pg_tup rfl (pgs_cons (pg_name (i := 2) scIsDealing.nd rfl (Or.inl rfl)) (pgs_cons (pg_name (i := 1) scIsDealing.nd rfl (Or.inl rfl)) pgs_nil))) (fun _ _ _ _ _ => pts_nil)
            (fun _ _ _ _ _ => pe_call G2 hr (by rfl) g2 k2 b2 .nil pass0 (pa_cons (pv 1) (pa_cons (pe_slice (show SlR _ (rSlA K) from sl_tupA) (pv 0) po_none (po_some (pv 2))) pa_nil)))) pa_nil))))), ?_⟩
    refine ⟨v, rfl, v, .ty "tuple", _, _, _, rfl, .ty _, td.ty, kit_ty (kit_tup d), _, rfl, ?_⟩
    cases ht : isTup d with
    | false =>
      rw [isDealing_tup ht] at q
      exact iteT (iteT (q H (Same.refl H)))
    | true =>
      cases td with
      | @tup a xs ds n h t =>
        have hl := t.length
        refine iteF ⟨.ref a, rfl, a, xs, rfl, .inr (SqT.of h), 1, _, rfl, rfl, _, rfl, ?_⟩
        by_cases h1 : 1 ≤ xs.length
        · rw [decide_eq_true (show (1 : Int) ≤ (xs.length : Int) by omega)]
          refine iteT ⟨_, 8, rfl, rfl, _, rfl, ?_⟩
          by_cases h8 : xs.length ≤ 8
          · rw [decide_eq_true (show (xs.length : Int) ≤ 8 by omega)]
            refine iteF ⟨.ref a, rfl, a, rfl, ⟨_, SqT.of h⟩, fun D1 hD1 => lc_kept walk_tup (fun _ => true) (fun i => .bl (isStep (ds.getD i .non))) hD1 (by omega) (fun H' e => SqT.of (e _ _ h)) (fun i x H2 H3 N R hi e2 y hN hR => ?_) (fun H2 e2 hL => ?_)⟩
            · obtain ⟨rfl, hx⟩ := y
              obtain ⟨di, hdi, tdi⟩ := t.get hx
              refine ⟨rfl, yesI ⟨x, rfl, st, x, di, rfl, tdi.mono (.of e2), fun H4 e4 => ?_⟩⟩
              have e5 : ds.getD i .non = di := by rw [List.getD_eq_getElem?_getD, hdi]; rfl
              have r := hR rfl H4 e4
              simp only [e5] at r
              exact r
            · have e1 : kept xs.length (fun _ => true) (fun i => V.bl (isStep (ds.getD i .non))) = (ds.map isStep).map V.bl := by
                rw [kept_all]
                have e0 : xs.length = ((ds.map isStep).map V.bl).length := by rw [List.length_map, List.length_map]; exact hl
                rw [e0]
                refine map_range _ _ fun i x hx => ?_
                rw [List.getElem?_map, List.getElem?_map] at hx
                cases hd : ds[i]? with
                | none => rw [hd] at hx; cases hx
                | some di =>
                  rw [hd] at hx
                  have e5 : ds.getD i .non = di := by rw [List.getD_eq_getElem?_getD, hd]; rfl
                  rw [e5]
                  exact Option.some.inj hx
              rw [e1] at hL
              refine ⟨D1, ds.map isStep, rfl, SqL.of hL, _, rfl, ?_⟩
              rw [all_id_map, ← prs_isSome]
              have hdl : decide (1 ≤ ds.length) = true := decide_eq_true (by omega)
              have hdl8 : decide (ds.length ≤ 8) = true := decide_eq_true (by omega)
              have q' : ∀ H', Same H H' → Q (.bl (match prs ds with | some l => follow mayP l | none => false)) H' := fun H' e => by
                have := q H' e
                rw [isDealing_eq, hdl, hdl8] at this
                exact this
              cases hp : prs ds with
              | none =>
                rw [hp] at q'
                exact iteT (q' H2 e2)
              | some l =>
                rw [hp] at q'
                obtain ⟨el, wl⟩ := prs_some hp
                have hll : xs.length = l.length := by rw [hl, el, List.length_map]
                have t' : TDs st H xs (l.map stepD) := by rw [← el]; exact t
                refine iteF ⟨.ref a, rfl, a, xs, rfl, SqT.of (e2 _ _ h), fun D2 hD2 => lc_kept walk_enumT (fun _ => true) (fun i => .bl (match l[i]? with | some p => mayP p (l.take i) | none => true)) hD2 (by omega) (fun H' e => SqT.of (e _ _ (e2 _ _ h))) (fun i x H3 H4 N R hi e3 y hN hR => ?_) (fun H3 e3 hL2 => ?_)⟩
                · obtain ⟨T, x1, x2, rfl, nT, rfl, ex1, hx2⟩ := y
                  have ex1' : x1 = .int (i : Nat) := (Option.some.inj ex1).symm
                  subst ex1'
                  obtain ⟨di, hdi, tdi⟩ := t'.get hx2
                  have hil : i < l.length := by omega
                  have hgi : l[i]? = some l[i] := List.getElem?_eq_getElem hil
                  have edi : di = stepD l[i] := by
                    rw [List.getElem?_map, hgi] at hdi
                    exact (Option.some.inj hdi).symm
                  subst edi
                  have eT : Same H (upd H3 T (.tup [.int (i : Nat), x2])) := Same.new (Same.trans e2 e3) nT
                  refine ⟨T, [.int (i : Nat), x2], rfl, SqT.of upd_same, rfl, .int (i : Nat), [x2], rfl, x2, [], rfl, rfl, rfl, yesI ⟨x2, rfl, .ref a, rfl, .int (i : Nat), rfl, i, rfl, a, xs, rfl, SqT.of (eT _ _ h), fun hw => ?_, fun hw p np => ?_⟩⟩
                  · rw [HT.sIx_nat] at hw
                    exact absurd hw.2 (by omega)
                  · have eP : Same H (upd (upd H3 T (.tup [.int (i : Nat), x2])) p (.tup (cutV xs none (some (i : Nat))))) := Same.new eT np
                    refine ⟨st, x2, l[i], p, xs.take i, l.take i, rfl, tdi.mono (.of eP), by rw [upd_same, cut_to], ?_, (wl _ (List.getElem_mem hil)).1, fun q hq => (wl q (List.mem_of_mem_take hq)).1, fun H5 e5 => ?_⟩
                    · rw [List.map_take]
                      exact (t'.take i).mono (.of eP)
                    · have r := hR rfl H5 (Same.trans (same_new nT) (Same.trans (same_new np) e5))
                      simp only [hgi] at r
                      exact r
                · have e1 : kept xs.length (fun _ => true) (fun i => V.bl (match l[i]? with | some p => mayP p (l.take i) | none => true)) = ((List.range l.length).map fun i => match l[i]? with | some p => mayP p (l.take i) | none => true).map V.bl := by
                    rw [kept_all, List.map_map, hll]
                    rfl
                  rw [e1] at hL2
                  refine ⟨D2, _, rfl, SqL.of hL2, ?_⟩
                  rw [all_id_map]
                  exact q' H3 (Same.trans e2 e3)
          · rw [decide_eq_false (show ¬ (xs.length : Int) ≤ 8 by omega)]
            have e : isDealing (.tup ds) = false := by
              rw [isDealing_eq, decide_eq_false (show ¬ ds.length ≤ 8 by omega), Bool.and_false, Bool.false_and]
            rw [e] at q
            exact iteT (q H (Same.refl H))
        · rw [decide_eq_false (show ¬ (1 : Int) ≤ (xs.length : Int) by omega)]
          have e : isDealing (.tup ds) = false := by
            rw [isDealing_eq, decide_eq_false (show ¬ 1 ≤ ds.length by omega), Bool.false_and, Bool.false_and]
          rw [e] at q
          refine iteF ⟨_, rfl, iteT (q H (Same.refl H))⟩
      | _ => exact absurd ht Bool.false_ne_true
/-! ### are_dealings -/
theorem areDealings_lst {d : D} (h : isLst d = false) : areDealings d = false := by
  cases d with
  | lst ds => exact absurd h.symm Bool.false_ne_true
  | _ => rfl
theorem ok_are_dealings {f f1 : Addr} {fd fd1 : FuncData} {k : Nat} (F : Fun K "are_dealings" "are_dealings" sAreDealings f fd) (M : Mg mg) (G1 : FnOk P w K mg base CX0 k f1 fd1 ["thing"] (spD isDealing)) (g1 : mg "is_dealing" = some (.ref f1)) (k1 : PySem.W.keepIn K (.ref f1) = true) (b1 : Binds K fd1 ["thing"] []) :
    FnOk P w K mg base CX0 (k + 1) f fd ["thing"] (spD areDealings) := by
  refine F.ok scAreDealings (fun vs H Q E h => ?_) (fun cdv A outer s H vs Q E hr h => ?_)
  · obtain ⟨st, v, d, rfl, _⟩ := h
    rfl
  · obtain ⟨st, v, d, rfl, td, q⟩ := h
    obtain ⟨ts, ms⟩ := M.dealings
    refine ⟨_, pss_cons (ps_if (PW.pt (pw_or (pt_not (pt_val (pe_callB call_isi (by rfl) M.isinstance (by decide +kernel) (pa_cons (pv 0) (pa_cons (pe_bltn (v := .ty "list") (by rfl) M.list (by decide +kernel) rfl) pa_nil)))))
        (pw_or1 (pt_not (pt_chain op_le op_le pe_int (pe_callB call_len_seq (by rfl) M.len PySem.boot_len (pa_cons (pv 0) pa_nil)) (pe_glob (v := .int 100) (by rfl) ms ⟨_, rfl⟩)))))) (pss_one (ps_ret pe_bl)) pss_nil)
      (pss_one (ps_ret (pe_callB (cr_all rfl) (by rfl) M.all (by decide +kernel) (pa_cons
          (pe_lc (own := [("dealing", 1)]) (g := gName 1) (by rfl) scAreDealings.nd (pi_list (pv 0)) (blkOk_by (own := [("dealing", 1)]) (N := ["thing", "dealing"]) (sc := defScope sAreDealings) (by decide +kernel))
            (fun _ _ _ _ _ => pg_name (i := 1) scAreDealings.nd rfl (Or.inl rfl)) (fun _ _ _ _ _ => pts_nil) (fun _ _ _ _ _ => pe_call G1 hr (by rfl) g1 k1 b1 .nil pass0 (pa_cons (pv 1) pa_nil))) pa_nil)))), ?_⟩
    refine ⟨v, rfl, v, .ty "list", _, _, _, rfl, .ty _, td.ty, kit_ty (kit_lst d), _, rfl, ?_⟩
    cases ht : isLst d with
    | false =>
      rw [areDealings_lst ht] at q
      exact iteT (iteT (q H (Same.refl H)))
    | true =>
      cases td with
      | @lst a xs ds n h t =>
        have hl := t.length
        refine iteF ⟨.ref a, rfl, a, xs, rfl, .inl (SqL.of h), 1, _, rfl, rfl, _, rfl, ?_⟩
        by_cases h1 : 1 ≤ xs.length
        · rw [decide_eq_true (show (1 : Int) ≤ (xs.length : Int) by omega)]
          refine iteT ⟨_, 100, rfl, rfl, _, rfl, ?_⟩
          by_cases h8 : xs.length ≤ 100
          · rw [decide_eq_true (show (xs.length : Int) ≤ 100 by omega)]
            refine iteF ⟨.ref a, rfl, a, rfl, ⟨_, SqL.of h⟩, fun D1 hD1 => lc_kept walk_list (fun _ => true) (fun i => .bl (isDealing (ds.getD i .non))) hD1 (by omega) (fun H' e => SqL.of (e _ _ h)) (fun i x H2 H3 N R hi e2 y hN hR => ?_) (fun H2 e2 hL => ?_)⟩
            · obtain ⟨rfl, hx⟩ := y
              obtain ⟨di, hdi, tdi⟩ := t.get hx
              refine ⟨rfl, yesI ⟨x, rfl, st, x, di, rfl, tdi.mono (.of e2), fun H4 e4 => ?_⟩⟩
              have e5 : ds.getD i .non = di := by rw [List.getD_eq_getElem?_getD, hdi]; rfl
              have r := hR rfl H4 e4
              simp only [e5] at r
              exact r
            · have e1 : kept xs.length (fun _ => true) (fun i => V.bl (isDealing (ds.getD i .non))) = (ds.map isDealing).map V.bl := by
                rw [kept_all]
                have e0 : xs.length = ((ds.map isDealing).map V.bl).length := by rw [List.length_map, List.length_map]; exact hl
                rw [e0]
                refine map_range _ _ fun i x hx => ?_
                rw [List.getElem?_map, List.getElem?_map] at hx
                cases hd : ds[i]? with
                | none => rw [hd] at hx; cases hx
                | some di =>
                  rw [hd] at hx
                  have e5 : ds.getD i .non = di := by rw [List.getD_eq_getElem?_getD, hd]; rfl
                  rw [e5]
                  exact Option.some.inj hx
              rw [e1] at hL
              refine ⟨D1, ds.map isDealing, rfl, SqL.of hL, ?_⟩
              rw [all_id_map]
              have r := q H2 e2
              rw [areDealings_eq, decide_eq_true (show 1 ≤ ds.length by omega), decide_eq_true (show ds.length ≤ 100 by omega)] at r
              exact r
          · rw [decide_eq_false (show ¬ (xs.length : Int) ≤ 100 by omega)]
            have e : areDealings (.lst ds) = false := by
              rw [areDealings_eq, decide_eq_false (show ¬ ds.length ≤ 100 by omega), Bool.and_false, Bool.false_and]
            rw [e] at q
            exact iteT (q H (Same.refl H))
        · rw [decide_eq_false (show ¬ (1 : Int) ≤ (xs.length : Int) by omega)]
          have e : areDealings (.lst ds) = false := by
            rw [areDealings_eq, decide_eq_false (show ¬ 1 ≤ ds.length by omega), Bool.false_and, Bool.false_and]
          rw [e] at q
          refine iteF ⟨_, rfl, iteT (q H (Same.refl H))⟩
      | _ => exact absurd ht Bool.false_ne_true
end
end As

namespace As
open PySem PySem.Spec PyProof.Rows L2
abbrev sCheckS : Stmt := topS 18
abbrev sTurns : Stmt := topS 20
theorem scCheckS : FnScope ["thing"] ["thing"] (defScope sCheckS) := ⟨rfl, rfl, rfl, by decide +kernel, rfl, by decide +kernel, by decide +kernel⟩
theorem scTurns : FnScope ["dealings", "dealing"] ["dealings"] (defScope sTurns) := ⟨rfl, rfl, rfl, by decide +kernel, rfl, by decide +kernel, by decide +kernel⟩
/-- an error's class as the top leaves it -/
structure Er (K : PySem.W.Frag) (mg : Str → Option Value) (x : Str) (CA C : Addr) : Prop where
  g : mg x = some (.ref C)
  x : PySem.W.excIn K C [.type "ValueError", .type "Exception", .type "BaseException", .type "object"] "ValueError.__new__" = true
  k : PySem.W.keepIn K (.ref C) = true
  b : PySem.W.subIn K (.ref C) (.type "BaseException") = some true
  t : PySem.W.typeIn K (.ref C) = some (.type "type")
  eA : PySem.W.exmOne K (.ref C) (.ref CA) = some true
  eC : ExcC K C
/-! ### dealings -/
def dlD (l : List Pr) : D := .tup (l.map stepD)
def dsD (ls : List (List Pr)) : D := .lst (ls.map dlD)
def okD (l : List Pr) : Prop := (∀ p ∈ l, wordB p.1 = true ∧ boxB p.2 = true) ∧ 1 ≤ l.length ∧ l.length ≤ 8 ∧ follow mayP l = true
theorem dealing_of {d : D} (h : isDealing d = true) : ∃ l, d = dlD l ∧ okD l := by
  cases d with
  | tup ds =>
    rw [isDealing_eq, Bool.and_eq_true, Bool.and_eq_true, decide_eq_true_eq, decide_eq_true_eq] at h
    obtain ⟨⟨h1, h8⟩, hf⟩ := h
    cases hp : prs ds with
    | none => rw [hp] at hf; cases hf
    | some l =>
      rw [hp] at hf
      obtain ⟨e, ok⟩ := prs_some hp
      subst e
      rw [List.length_map] at h1 h8
      exact ⟨l, rfl, ok, h1, h8, hf⟩
  | _ => cases h
theorem dealing_yes {l : List Pr} (h : okD l) : isDealing (dlD l) = true := by
  show isDealing (.tup (l.map stepD)) = true
  rw [isDealing_eq, prs_of h.1, List.length_map, decide_eq_true h.2.1, decide_eq_true h.2.2.1]
  exact h.2.2.2
theorem dealings_all : ∀ {ds : List D}, ds.all isDealing = true → ∃ ls : List (List Pr), ds = ls.map dlD ∧ ∀ l ∈ ls, okD l
  | [], _ => ⟨[], rfl, fun l hl => absurd hl List.not_mem_nil⟩
  | d :: ds, h => by
    rw [List.all_cons, Bool.and_eq_true] at h
    obtain ⟨l, rfl, ok⟩ := dealing_of h.1
    obtain ⟨ls, rfl, oks⟩ := dealings_all h.2
    exact ⟨l :: ls, rfl, fun m hm => (List.mem_cons.mp hm).elim (fun e => by rw [e]; exact ok) (oks m)⟩
theorem dealings_of {d : D} (h : areDealings d = true) : ∃ ls : List (List Pr), d = dsD ls ∧ (∀ l ∈ ls, okD l) ∧ 1 ≤ ls.length ∧ ls.length ≤ 100 := by
  cases d with
  | lst ds =>
    rw [areDealings_eq, Bool.and_eq_true, Bool.and_eq_true, decide_eq_true_eq, decide_eq_true_eq] at h
    obtain ⟨⟨h1, h2⟩, h3⟩ := h
    obtain ⟨ls, rfl, ok⟩ := dealings_all h3
    rw [List.length_map] at h1 h2
    exact ⟨ls, rfl, ok, h1, h2⟩
  | _ => cases h
theorem dealings_yes {ls : List (List Pr)} (h : ∀ l ∈ ls, okD l) (h1 : 1 ≤ ls.length) (h2 : ls.length ≤ 100) : areDealings (dsD ls) = true := by
  show areDealings (.lst (ls.map dlD)) = true
  rw [areDealings_eq, List.length_map, decide_eq_true h1, decide_eq_true h2]
  show (ls.map dlD).all isDealing = true
  rw [List.all_map, List.all_eq_true]
  exact fun l hl => dealing_yes (h l hl)
section
variable {P : Program} {w : World} {K : PySem.W.Frag} {mg : Str → Option Value} {base : Heap} {CA CS CO : Addr}
/-! ### check_dealings -/
def spCheckS (CS : Addr) : Sp := fun vs H Q E => ∃ st v d, vs = [v] ∧ TD st H v d ∧ (areDealings d = true → ∀ H', Same H H' → Q .non H') ∧ (areDealings d = false → ∀ H', Same H H' → E (.ref CS) none H')
theorem ok_checkS {f f1 : Addr} {fd fd1 : FuncData} {k : Nat} (F : Fun K "check_dealings" "check_dealings" sCheckS f fd) (T : Er K mg "NoDealings" CA CS) (G1 : FnOk P w K mg base CX0 k f1 fd1 ["thing"] (spD areDealings)) (g1 : mg "are_dealings" = some (.ref f1)) (k1 : PySem.W.keepIn K (.ref f1) = true) (b1 : Binds K fd1 ["thing"] []) :
    FnOk P w K mg base (L2.CX P w) (k + 1) f fd ["thing"] (spCheckS CS) := by
  refine F.okX scCheckS (fun vs H Q E h => ?_) (fun cdv A outer s H vs Q E hr h => ?_)
  · obtain ⟨st, v, d, rfl, _⟩ := h
    rfl
  · obtain ⟨st, v, d, rfl, td, q1, q2⟩ := h
    refine ⟨_, pss_one (ps_if (pt_not (pt_val (pe_call G1 hr (by rfl) g1 k1 b1 .nil pass0 (pa_cons (pv 0) pa_nil)))) (pss_one (ps_raise rfl (takes_of rfl rfl rfl rfl) (pmk_own PySem.F.excBase_ValueError T.x T.g T.k (raises_own T.b T.t) (by rfl)))) pss_nil), ?_⟩
    refine ⟨v, rfl, st, v, d, rfl, td, fun H1 e1 => ⟨_, rfl, ?_⟩⟩
    cases hd : areDealings d with
    | true => exact iteF (q1 hd H1 e1)
    | false => exact iteT (q2 hd H1 e1)
/-! ### turns_of -/
def turnsOf (ls : List (List Pr)) : List Int := ls.map fun l => (l.length : Int) + 1
def spTurns : Sp := fun vs H Q _ => ∃ (st : Addr) (v : V) (ls : List (List Pr)), vs = [v] ∧ TD st H v (dsD ls) ∧ ls.length ≤ 200 ∧ ∀ p H', H p = none → Same H H' → H' p = some (.lst ((turnsOf ls).map V.int)) → Q (.ref p) H'
theorem ok_turns {f : Addr} {fd : FuncData} {k : Nat} (F : Fun K "turns_of" "turns_of" sTurns f fd) (M : Mg mg) : FnOk P w K mg base CX0 (k + 1) f fd ["dealings"] spTurns := by
  refine F.ok scTurns (fun vs H Q E h => ?_) (fun cdv A outer s H vs Q E hr h => ?_)
  · obtain ⟨st, v, ls, rfl, _⟩ := h
    rfl
  · obtain ⟨st, v, ls, rfl, td, h200, q⟩ := h
    refine ⟨_, pss_one (ps_ret (pe_lc (own := [("dealing", 1)]) (g := gName 1) (by rfl) scTurns.nd (pi_list (pv 0)) (blkOk_by (own := [("dealing", 1)]) (N := ["dealings", "dealing"]) (sc := defScope sTurns) (by decide +kernel))
        (fun _ _ _ _ _ => pg_name (i := 1) scTurns.nd rfl (Or.inl rfl)) (fun _ _ _ _ _ => pts_nil) (fun _ _ _ _ _ => pe_add (pe_callB (show CallR _ (.builtin "len") (fun xs H Q => ∃ p ys, xs = [.ref p] ∧ (SqL K H p ys ∨ SqT K H p ys) ∧ Q (.int ys.length) H) from call_len_seq) (by rfl) M.len PySem.boot_len (pa_cons (pv 1) pa_nil)) pe_int))), ?_⟩
    cases td with
    | @lst a xs _ n h t =>
    have hl : xs.length = ls.length := by rw [t.length, List.length_map]
    refine ⟨.ref a, rfl, a, rfl, ⟨_, SqL.of h⟩, fun D1 hD1 => lc_kept (walk_list (xs := xs)) (fun _ => true) (fun i => .int (((ls.getD i []).length : Int) + 1)) hD1 (by omega) (fun H' e => SqL.of (e _ _ h)) (fun i x H2 H3 N R hi e2 y hN hR => ?_) (fun H2 e2 hL => ?_)⟩
    · obtain ⟨rfl, hx⟩ := y
      obtain ⟨d, hd, tdi⟩ := t.get hx
      have hil : i < ls.length := by omega
      have ed : dlD ls[i] = d := by
        rw [List.getElem?_map, List.getElem?_eq_getElem hil] at hd
        exact Option.some.inj hd
      subst ed
      have eg : ls.getD i [] = ls[i] := by rw [List.getD_eq_getElem?_getD, List.getElem?_eq_getElem hil]; rfl
      simp only [eg] at hR
      cases tdi with
      | @tup b ys _ nb hb tb =>
      have hlb : ys.length = ls[i].length := by rw [tb.length, List.length_map]
      refine ⟨rfl, yesI ⟨.ref b, rfl, b, ys, rfl, .inr (SqT.of (e2 _ _ hb)), _, 1, rfl, rfl, ?_⟩⟩
      rw [hlb]
      exact hR trivial _ (Same.refl _)
    · refine q D1 H2 hD1 e2 ?_
      rw [hL, kept_all]
      congr 2
      unfold turnsOf
      rw [hl, List.map_map]
      have e : (List.range ls.length).map (fun i => ls.getD i []) = ls := map_range ls _ fun i x hx => by rw [List.getD_eq_getElem?_getD, hx]; rfl
      conv => rhs; rw [← e]
      rw [List.map_map]
      rfl
/-! ### is_order -/
def rng (n : Nat) : List Int := (List.range n).map fun (i : Nat) => (i : Int)
theorem rng_le (n : Nat) : (rng n).Pairwise (· ≤ ·) := by
  unfold rng
  rw [List.pairwise_map]
  exact List.pairwise_lt_range.imp fun h => by omega
theorem rng_mem {n : Nat} {k : Int} : k ∈ rng n ↔ 0 ≤ k ∧ k < n := by
  unfold rng
  rw [List.mem_map]
  constructor
  · rintro ⟨i, hi, rfl⟩
    have := List.mem_range.mp hi
    omega
  · rintro ⟨h1, h2⟩
    exact ⟨k.toNat, List.mem_range.mpr (by omega), by omega⟩
def intsOf : List D → Option (List Int)
  | [] => some []
  | .int i :: ds => (intsOf ds).map (i :: ·)
  | _ :: _ => none
theorem intsOf_some : ∀ {ds : List D} {ns : List Int}, intsOf ds = some ns → ds = ns.map D.int
  | [], ns, h => by
    have e : [] = ns := Option.some.inj h
    subst e
    rfl
  | .int i :: ds, ns, h => by
    cases hd : intsOf ds with
    | none => unfold intsOf at h; rw [hd] at h; cases h
    | some ms =>
      unfold intsOf at h
      rw [hd] at h
      have e : i :: ms = ns := Option.some.inj h
      subst e
      rw [intsOf_some hd]
      rfl
theorem intsOf_map (ns : List Int) : intsOf (ns.map D.int) = some ns := by
  induction ns with
  | nil => rfl
  | cons n ns ih =>
    show (intsOf (ns.map D.int)).map (n :: ·) = _
    rw [ih]
    rfl
theorem ints_nums {n : Int} : ∀ {ds : List D}, (ds.all fun d => numB d n) = true → ∃ ns : List Int, ds = ns.map D.int
  | [], _ => ⟨[], rfl⟩
  | d :: ds, h => by
    rw [List.all_cons, Bool.and_eq_true] at h
    obtain ⟨ns, rfl⟩ := ints_nums h.2
    cases d with
    | int i => exact ⟨i :: ns, rfl⟩
    | _ => cases h.1
/-- whether d is an order of n dealings -/
def ordB (n : Nat) : D → Bool
  | .lst ds => (ds.all fun d => numB d n) && match intsOf ds with
    | some ns => decide (ns.Perm (rng n))
    | none => false
  | _ => false
theorem eqv_ints : ∀ a b : List Int, PyData.eqv (.list (a.map PyData.int)) (.list (b.map PyData.int)) = decide (a = b) := by
  have half : ∀ a b : List Int, PyData.eqvAll (a.map PyData.int) (b.map PyData.int) = decide (a = b) := by
    intro a
    induction a with
    | nil =>
      intro b
      cases b with
      | nil => simp [PyData.eqvAll]
      | cons y b => simp [PyData.eqvAll]
    | cons x a ih =>
      intro b
      cases b with
      | nil => simp [PyData.eqvAll]
      | cons y b =>
        simp only [List.map_cons, PyData.eqvAll, PyData.eqv, ih b]
        by_cases h1 : x = y
        · by_cases h2 : a = b
          · subst h1 h2
            simp
          · simp [h1, h2]
        · simp [h1]
  intro a b
  simp only [PyData.eqv]
  exact half a b
theorem lay_ints : ∀ ns : List Int, PyData.canLayAll0 (ns.map PyData.int) = true
  | [] => by simp [PyData.canLayAll0]
  | n :: ns => by simp [PyData.canLayAll0, PyData.canLay0, lay_ints ns]
theorem depth_ints : ∀ ns : List Int, PyData.depthAll (ns.map PyData.int) = 0
  | [] => by simp [PyData.depthAll]
  | n :: ns => by simp [PyData.depthAll, PyData.depth, depth_ints ns]
theorem shaped_of {ds : List PyData} (h1 : PyData.canLayAll0 ds = true) (h2 : PyData.depthAll ds ≤ 60) : SeqAt.shaped (.list ds) = true := by
  show (PyData.canLay0 (.list ds) && decide (PyData.depth (.list ds) ≤ 64)) = true
  rw [Bool.and_eq_true]
  refine ⟨by simp only [PyData.canLay0]; exact h1, decide_eq_true ?_⟩
  simp only [PyData.depth]
  omega
theorem shaped_ints (ns : List Int) : SeqAt.shaped (.list (ns.map PyData.int)) = true := shaped_of (lay_ints ns) (by rw [depth_ints]; omega)
theorem dp_ints {H : Hp} : ∀ ns : List Int, DpAll K H (ns.map V.int) (ns.map PyData.int)
  | [] => .nil
  | n :: ns => .cons (.int n) (dp_ints ns)
theorem tds_ints {st : Addr} {H : Hp} : ∀ {ns : List Int} {xs : List V}, TDs st H xs (ns.map D.int) → xs = ns.map V.int
  | [], _, h => by
    cases h
    rfl
  | n :: ns, _, h => by
    cases h with
    | cons h t =>
      cases h
      rw [tds_ints t]
      rfl
theorem ints_tds {st : Addr} {H : Hp} : ∀ ns : List Int, TDs st H (ns.map V.int) (ns.map D.int)
  | [] => .nil
  | n :: ns => .cons (.int n) (ints_tds ns)
end
end As

namespace As
open PySem PySem.Spec PyProof.Rows L2
theorem rng_len (n : Nat) : (rng n).length = n := by
  unfold rng
  rw [List.length_map, List.length_range]
end As

namespace As
open PySem PySem.Spec PyProof.Rows L2
abbrev sCellAt : Stmt := topS 28
abbrev sWell : Stmt := topS 29
abbrev sDraw : Stmt := topS 30
theorem scCellAt : FnScope ["_law_script", "_law_k"] ["_law_script", "_law_k"] (defScope sCellAt) := ⟨rfl, rfl, rfl, by decide +kernel, rfl, by decide +kernel, by decide +kernel⟩
theorem scWell : FnScope ["_law_cell"] ["_law_cell"] (defScope sWell) := ⟨rfl, rfl, rfl, by decide +kernel, rfl, by decide +kernel, by decide +kernel⟩
theorem scDraw : FnScope ["_law_well_here", "_law_many", "_law_found", "_law_number"] ["_law_well_here", "_law_many"] (defScope sDraw) := ⟨rfl, rfl, rfl, by decide +kernel, rfl, by decide +kernel, by decide +kernel⟩
section
variable {P : Program} {w : World} {K : PySem.W.Frag} {mg : Str → Option Value} {base : Heap}
/-! ### cell_at -/
def spCellAt (K : PySem.W.Frag) : Sp := fun vs H Q _ => ∃ (a : Addr) (k : Nat) (ns : List Int), vs = [.ref a, .int (k : Int)] ∧ SqL K H a (ns.map V.int) ∧ ∀ i, Q (.int i) H
theorem ok_cell_at {f : Addr} {fd : FuncData} {k : Nat} (F : Fun K "_law_cell_at" "_law_cell_at" sCellAt f fd) (M : Mg mg) : FnOk P w K mg base CX0 (k + 1) f fd ["_law_script", "_law_k"] (spCellAt K) := by
  refine F.ok scCellAt (fun vs H Q E h => ?_) (fun cdv A outer s H vs Q E hr h => ?_)
  · obtain ⟨a, k, ns, rfl, _⟩ := h
    rfl
  · obtain ⟨a, k, ns, rfl, hS, q⟩ := h
    refine ⟨_, pss_cons (ps_if (pt_cmpR op_lt (pv 1) (pe_callB call_len_seq (by rfl) M.len PySem.boot_len (pa_cons (pv 0) pa_nil)) (nomark _)) (pss_one (ps_ret (pe_ix ix_list (pv 0) (pv 1) (fun _ _ => rfl)))) pss_nil)
      (pss_one (ps_ret pe_int)), ?_⟩
    refine ⟨_, rfl, .ref a, rfl, a, _, rfl, .inl hS, _, _, rfl, rfl, _, rfl, ite2 (fun e => ?_) (fun e => ?_)⟩
    · have e' := of_decide_eq_true e
      have hk : k < ns.length := by
        rw [List.length_map] at e'
        omega
      refine ⟨.ref a, rfl, _, rfl, a, _, k, .int ns[k], rfl, rfl, hS, atI_nat ?_, q _⟩
      rw [List.getElem?_map, List.getElem?_eq_getElem hk]
      rfl
    · exact q 0
/-! ### the well -/
def Well (st : Addr) (H : Hp) : Prop := ∃ a b c : Int, H st = some (.lst [.int a, .int b, .int c])
theorem Well.same {st : Addr} {H H' : Hp} (e : Same H H') (h : Well st H) : Well st H' := by
  obtain ⟨a, b, c, h⟩ := h
  exact ⟨a, b, c, e _ _ h⟩
theorem Well.ne {st p : Addr} {H : Hp} (h : Well st H) (np : H p = none) : p ≠ st := by
  obtain ⟨a, b, c, h⟩ := h
  exact (ne_of_none h np).symm
def spWell : Sp := fun vs H Q _ => ∃ c : Int, vs = [.int c] ∧ ∀ p a b, H p = none → Q (.ref p) (upd H p (.lst [.int a, .int b, .int 0]))
theorem ok_well {f : Addr} {fd : FuncData} {k : Nat} (F : Fun K "_law_well" "_law_well" sWell f fd) (M : Mg mg) : FnOk P w K mg base CX0 (k + 1) f fd ["_law_cell"] spWell := by
  refine F.ok scWell (fun vs H Q E h => ?_) (fun cdv A outer s H vs Q E hr h => ?_)
  · obtain ⟨c, rfl, _⟩ := h
    rfl
  · obtain ⟨c, rfl, q⟩ := h
    refine ⟨_, pss_one (ps_ret (pe_lst (pa_cons (pe_op op_mul (pv 0) (pe_callTy call_int1 (by rfl) M.int (by decide +kernel) (pa_cons (pe_cmpR op_ge (pv 0) (pe_op op_pow pe_int pe_int) (nomark _)) pa_nil))) (pa_cons (pe_op op_mod (pv 0) pe_int) (pa_cons pe_int pa_nil))))), ?_⟩
    refine ⟨.int c, rfl, .int c, rfl, 10, 18, rfl, rfl, ⟨by decide, by decide, by decide⟩, c, _, rfl, rfl, .inr ⟨_, rfl, c, _, rfl, rfl, .inr ?_, .int c, rfl, c, 2147483629, rfl, rfl, (show (0 : Int) < 2147483629 by decide), by show 3 ≤ sizeLine; decide, fun p np => q p _ _ np⟩⟩
    cases decide ((10 : Int) ^ (18 : Int).toNat ≤ c)
    · exact ⟨by decide, by decide⟩
    · exact ⟨by decide, by decide⟩
def spDraw : Sp := fun vs H Q _ => ∃ (st : Addr) (b : Int), vs = [.ref st, .int b] ∧ Well st H ∧ 0 < b ∧ b < 1000000000 ∧ ∀ r H', 0 ≤ r → r < b → Well st H' → ExS st H H' → Q (.int r) H'
theorem ok_draw {f : Addr} {fd : FuncData} {k : Nat} (F : Fun K "_law_draw" "_law_draw" sDraw f fd) (M : Mg mg) : FnOk P w K mg base CX0 (k + 1) f fd ["_law_well_here", "_law_many"] spDraw := by
  refine F.ok scDraw (fun vs H Q E h => ?_) (fun cdv A outer s H vs Q E hr h => ?_)
  · obtain ⟨st, b, rfl, _⟩ := h
    rfl
  · obtain ⟨st, bs, rfl, hW, hb0, hb1, q⟩ := h
    refine ⟨_, pss_cons (ps_if (pt_cmpR op_gt (pe_ix ix_list (pv 0) pe_int (fun _ _ => rfl)) pe_int (nomark _))
        (pss_cons (ps_set (i := 2) scDraw.nd rfl (.inl rfl) (pe_op op_mod (pe_ix ix_list (pv 0) pe_int (fun _ _ => rfl)) (pv 1)))
        (pss_cons (ps_asg (pe_op op_fdiv (pe_ix ix_list (pv 0) pe_int (fun _ _ => rfl)) (pv 1)) (pg_sub (pv 0) pe_int set_list))
        (pss_one (ps_ret (pv 2))))) pss_nil)
      (pss_cons (ps_asg (pe_add (pe_ix ix_list (pv 0) pe_int (fun _ _ => rfl)) pe_int) (pg_sub (pv 0) pe_int set_list))
      (pss_cons (ps_set (i := 3) scDraw.nd rfl (.inl rfl) (pe_op op_mod (pe_op op_mul (pe_add (pe_add (pe_ix ix_list (pv 0) pe_int (fun _ _ => rfl)) (pe_op op_mul pe_int (pe_ix ix_list (pv 0) pe_int (fun _ _ => rfl)))) pe_int) pe_int) pe_int))
      (pss_cons (ps_set (i := 3) scDraw.nd rfl (.inl rfl) (pe_op op_mod (pe_op op_mul (pv 3) (pe_add (pe_add (pe_op op_fdiv (pv 3) pe_int) pe_int) (pe_ix ix_list (pv 0) pe_int (fun _ _ => rfl)))) pe_int))
      (pss_one (ps_ret (pe_op op_mod (pe_op op_fdiv (pe_op op_mod (pe_op op_mul (pv 3) (pe_add (pe_op op_fdiv (pv 3) pe_int) pe_int)) pe_int) pe_int) (pv 1))))))), ?_⟩
    obtain ⟨a, b, c, h⟩ := hW
    refine ⟨.ref st, rfl, st, _, 0, .int a, rfl, rfl, SqL.of h, rfl, a, 0, rfl, rfl, _, rfl, ite2 (fun e => ?_) (fun e => ?_)⟩
    · refine ⟨.ref st, rfl, st, _, 0, .int a, rfl, rfl, SqL.of h, rfl, .int bs, rfl, a, bs, rfl, rfl, hb0, ?_⟩
      refine ⟨.ref st, rfl, st, _, 0, .int a, rfl, rfl, SqL.of h, rfl, .int bs, rfl, a, bs, rfl, rfl, ⟨hb0, by omega⟩, .ref st, rfl, st, _, 0, 0, rfl, rfl, h, rfl, ?_⟩
      refine ⟨.int (a % bs), rfl, q _ _ (Int.emod_nonneg _ (by omega)) (Int.emod_lt_of_pos _ hb0) ⟨a / bs, b, c, upd_same⟩ ExS.at_⟩
    · refine ⟨.ref st, rfl, st, _, 2, .int c, rfl, rfl, SqL.of h, rfl, c, 1, rfl, rfl, .ref st, rfl, st, _, 2, 2, rfl, rfl, h, rfl, ?_⟩
      have h2 : (upd H st (.lst ([.int a, .int b, .int c].set 2 (.int (c + 1))))) st = some (.lst [.int a, .int b, .int (c + 1)]) := upd_same
      refine ⟨.ref st, rfl, st, _, 1, .int b, rfl, rfl, SqL.of h2, rfl, .ref st, rfl, st, _, 2, .int (c + 1), rfl, rfl, SqL.of h2, rfl, 86969, c + 1, rfl, rfl, .inl ⟨by decide, by decide⟩, b, 86969 * (c + 1), rfl, rfl, _, 1, rfl, rfl, _, 48271, rfl, rfl, .inr ⟨by decide, by decide⟩, _, 2147483629, rfl, rfl, (show (0 : Int) < 2147483629 by decide), ?_⟩
      obtain ⟨n, hn⟩ : ∃ n : Int, (b + 86969 * (c + 1) + 1) * 48271 % 2147483629 = n := ⟨_, rfl⟩
      have n0 : 0 ≤ n := by rw [← hn]; exact Int.emod_nonneg _ (by decide)
      have n1 : n < 2147483629 := by rw [← hn]; exact Int.emod_lt_of_pos _ (by decide)
      refine ⟨.int n, by rw [← hn]; rfl, .int n, by rw [← hn]; rfl, n, 1013, rfl, rfl, ⟨by decide, by decide⟩, _, 69623, rfl, rfl, .ref st, rfl, st, _, 2, .int (c + 1), rfl, rfl, SqL.of h2, rfl, _, c + 1, rfl, rfl, n, _, rfl, rfl, .inl ⟨by omega, by omega⟩, _, 2147483587, rfl, rfl, (show (0 : Int) < 2147483587 by decide), ?_⟩
      obtain ⟨m, hm⟩ : ∃ m : Int, n * (n / 1013 + 69623 + (c + 1)) % 2147483587 = m := ⟨_, rfl⟩
      have m0 : 0 ≤ m := by rw [← hm]; exact Int.emod_nonneg _ (by decide)
      have m1 : m < 2147483587 := by rw [← hm]; exact Int.emod_lt_of_pos _ (by decide)
      refine ⟨.int m, by rw [← hm]; rfl, .int m, by rw [← hm]; rfl, m, 2003, rfl, rfl, ⟨by decide, by decide⟩, _, 40692, rfl, rfl, m, _, rfl, rfl, .inl ⟨by omega, by omega⟩, _, 2147483563, rfl, rfl, (show (0 : Int) < 2147483563 by decide), _, 3, rfl, rfl, ⟨by decide, by decide⟩, .int bs, rfl, _, bs, rfl, rfl, hb0, ?_⟩
      exact q _ _ (Int.emod_nonneg _ (by omega)) (Int.emod_lt_of_pos _ hb0) ⟨a, b, c + 1, upd_same⟩ ExS.at_
end
end As

namespace As
open PySem PySem.Spec PyProof.Rows L2
/-! ### a list beside the empty one -/
def rEqNil (K : PySem.W.Frag) : R2 := fun x y H Q => ∃ a b xs, x = .ref a ∧ y = .ref b ∧ SqL K H a xs ∧ SqL K H b [] ∧ Q (.bl xs.isEmpty) H
theorem op_eqNil {X : Cx} (hu : X.A.units < cLine) : OpR X (compareOp .Eq) (rEqNil X.K) := by
  intro pins s σ H x y v u Q I rx ry h
  obtain ⟨a, b, xs, rfl, rfl, ha, hb, q⟩ := h
  cases rx
  cases ry
  obtain ⟨its, rv, p1, _⟩ := I.list ha
  obtain ⟨its2, rv2, p2, _⟩ := I.list hb
  cases rv2
  cases xs with
  | nil =>
    cases rv
    exact SeqAt.eq_listAt p1.isList p2.isList rfl hu (e := fun _ => true) (fun j h1 _ => absurd h1 (Nat.not_lt_zero _)) ⟨.bl true, H, I, rfl, q⟩
  | cons x xs =>
    cases rv with
    | cons r1 r2 => exact SeqAt.eq_list_lengthsAt p1.isList p2.isList (by simp) hu ⟨.bl false, H, I, rfl, q⟩
/-! ### data picked, cut, put together -/
theorem TDs.pick {st : Addr} {H : Hp} {xs : List V} {ds : List D} {r : Int} (t : TDs st H xs ds) (h0 : 0 ≤ r) (h1 : r < xs.length) : ∃ v d, atI xs r = some v ∧ TD st H v d := by
  obtain ⟨j, rfl⟩ : ∃ j : Nat, r = (j : Int) := ⟨r.toNat, by omega⟩
  have hj : j < xs.length := by omega
  have hx : xs[j]? = some xs[j] := List.getElem?_eq_getElem hj
  obtain ⟨d, _, td⟩ := t.get hx
  exact ⟨xs[j], d, atI_nat hx, td⟩
theorem cat_ok {K : PySem.W.Frag} {st a b : Addr} {H : Hp} {ds es : List D} {Q : VK} (W : Well st H) (ta : TD st H (.ref a) (.tup ds)) (tb : TD st H (.ref b) (.tup es)) (hl : ds.length + es.length ≤ 1000)
    (q : ∀ c H', TD st H' (.ref c) (.tup (ds ++ es)) → Same H H' → Q (.ref c) H') : rCatA K (.ref a) (.ref b) H Q := by
  cases ta with
  | @tup a xs _ na ha t1 =>
    cases tb with
    | @tup b ys _ nb hb t2 =>
      have l1 := t1.length
      have l2 := t2.length
      refine ⟨a, b, xs, ys, rfl, rfl, SqT.of ha, SqT.of hb, sl_of (by omega), fun e => ?_, fun _ e => ?_, fun _ _ p np => ?_⟩
      · subst e
        cases t1
        exact q b H (.tup nb hb t2) (Same.refl H)
      · subst e
        cases t2
        refine q a H ?_ (Same.refl H)
        rw [List.append_nil]
        exact .tup na ha t1
      · exact q p _ (.tup (W.ne np) upd_same ((t1.append t2).mono (ExS.new np))) (same_new np)
theorem sl_ok {K : PySem.W.Frag} {st a : Addr} {H : Hp} {ds : List D} {lo hi : Option Int} {Q : VK} (W : Well st H) (ta : TD st H (.ref a) (.tup ds))
    (q : ∀ c H' es, TD st H' (.ref c) (.tup es) → es.length ≤ ds.length → Same H H' → Q (.ref c) H') : rSlA K (.ref a) lo hi H Q := by
  cases ta with
  | @tup a xs _ na ha t1 =>
    have l1 := t1.length
    refine ⟨a, xs, rfl, SqT.of ha, fun _ => q a H ds (.tup na ha t1) (Nat.le_refl _) (Same.refl H), fun _ p np => ?_⟩
    have t2 := (t1.drop (HT.sIx xs.length 0 lo)).take (HT.sIx xs.length xs.length hi - HT.sIx xs.length 0 lo)
    refine q p _ _ (.tup (W.ne np) upd_same (t2.mono (ExS.new np))) ?_ (same_new np)
    rw [List.length_take, List.length_drop]
    omega
theorem slL_ok {K : PySem.W.Frag} {st a : Addr} {H : Hp} {ds : List D} {lo hi : Option Int} {Q : VK} (W : Well st H) (ta : TD st H (.ref a) (.lst ds))
    (q : ∀ c H' es, TD st H' (.ref c) (.lst es) → es.length ≤ ds.length → Same H H' → Q (.ref c) H') : rSlL K (.ref a) lo hi H Q := by
  cases ta with
  | @lst a xs _ na ha t1 =>
    have l1 := t1.length
    refine ⟨a, xs, rfl, SqL.of ha, fun p np => ?_⟩
    have t2 := (t1.drop (HT.sIx xs.length 0 lo)).take (HT.sIx xs.length xs.length hi - HT.sIx xs.length 0 lo)
    refine q p _ _ (.lst (W.ne np) upd_same (t2.mono (ExS.new np))) ?_ (same_new np)
    rw [List.length_take, List.length_drop]
    omega
theorem catL_ok {st a b : Addr} {H : Hp} {ds es : List D} {Q : VK} (W : Well st H) (ta : TD st H (.ref a) (.lst ds)) (tb : TD st H (.ref b) (.lst es)) (hl : ds.length + es.length ≤ 1000)
    (q : ∀ c H', TD st H' (.ref c) (.lst (ds ++ es)) → Same H H' → Q (.ref c) H') : rCat (.ref a) (.ref b) H Q := by
  cases ta with
  | @lst a xs _ na ha t1 =>
    cases tb with
    | @lst b ys _ nb hb t2 =>
      have l1 := t1.length
      have l2 := t2.length
      exact ⟨a, b, xs, ys, rfl, rfl, ha, hb, sl_of (by omega), fun p np => q p _ (.lst (W.ne np) upd_same ((t1.append t2).mono (ExS.new np))) (same_new np)⟩
/-! ### lists of steps -/
theorem prs_one {ds : List D} {l : List Pr} {d : D} {p : Pr} : prs ds = some l → asPr d = some p → prs (ds ++ [d]) = some (l ++ [p]) := by
  intro h1 h2
  obtain ⟨e1, w1⟩ := prs_some h1
  obtain ⟨e2, w2⟩ := asPr_some h2
  have e : ds ++ [d] = (l ++ [p]).map stepD := by
    rw [e1, e2, List.map_append]
    rfl
  rw [e]
  refine prs_of fun q hq => ?_
  rcases List.mem_append.mp hq with h | h
  · exact w1 q h
  · rw [List.mem_singleton.mp h]
    exact w2
theorem prs_take {ds : List D} {l : List Pr} (h : prs ds = some l) (i : Nat) : prs (ds.take i) = some (l.take i) := by
  obtain ⟨e1, w1⟩ := prs_some h
  rw [e1, ← List.map_take]
  exact prs_of fun q hq => w1 q (List.mem_of_mem_take hq)
theorem follow_all {m : Pr → List Pr → Bool} {l : List Pr} (h : ∀ i p, l[i]? = some p → m p (l.take i) = true) : follow m l = true := by
  unfold follow
  rw [List.all_eq_true]
  intro i _
  split
  · rename_i p hp
    exact h i p hp
  · rfl
theorem follow_not {m : Pr → List Pr → Bool} {l : List Pr} {i : Nat} {p : Pr} (hp : l[i]? = some p) (h : m p (l.take i) = false) : follow m l = false := by
  cases hf : follow m l with
  | false => rfl
  | true =>
    unfold follow at hf
    rw [List.all_eq_true] at hf
    have := hf i (List.mem_range.mpr (List.getElem?_eq_some_iff.mp hp).1)
    rw [hp] at this
    have this' : m p (l.take i) = true := this
    rw [h] at this'
    exact absurd this' Bool.false_ne_true
theorem isDealing_noStep {ds : List D} {d : D} {i : Nat} (hd : ds[i]? = some d) (h : isStep d = false) : isDealing (.tup ds) = false := by
  have hn : prs ds = none := by
    cases hp : prs ds with
    | none => rfl
    | some l =>
      have h1 := prs_isSome ds
      rw [hp] at h1
      have h2 : ds.all isStep = true := h1.symm
      rw [List.all_eq_true] at h2
      have := h2 d (List.mem_of_getElem? hd)
      rw [h] at this
      exact absurd this Bool.false_ne_true
  rw [isDealing_eq, hn, Bool.and_false]
theorem isDealing_noFollow {ds : List D} {d : D} {l : List Pr} {p : Pr} {i : Nat} (hd : ds[i]? = some d) (hp : asPr d = some p) (hl : prs (ds.take i) = some l) (h : mayP p l = false) : isDealing (.tup ds) = false := by
  rw [isDealing_eq]
  cases hq : prs ds with
  | none => rw [Bool.and_false]
  | some m =>
    have e1 : l = m.take i := Option.some.inj (hl.symm.trans (prs_take hq i))
    obtain ⟨e2, w2⟩ := prs_some hq
    have e3 : m[i]? = some p := by
      rw [e2, List.getElem?_map] at hd
      cases hm : m[i]? with
      | none => rw [hm] at hd; cases hd
      | some q =>
        rw [hm] at hd
        have e4 : stepD q = d := Option.some.inj hd
        have wq := w2 q (List.mem_of_getElem? hm)
        rw [← e4, asPr_step wq.1 wq.2] at hp
        exact hp
    rw [e1] at h
    show (_ && follow mayP m) = false
    rw [follow_not e3 h, Bool.and_false]
end As

namespace As
open PySem PySem.Spec PyProof.Rows L2
abbrev sOne : Stmt := topS 31
abbrev sBoxes : Stmt := topS 32
abbrev sDealing : Stmt := topS 33
abbrev sDealings : Stmt := topS 34
theorem scOne : FnScope ["_law_well_here", "_law_some"] ["_law_well_here", "_law_some"] (defScope sOne) := ⟨rfl, rfl, rfl, by decide +kernel, rfl, by decide +kernel, by decide +kernel⟩
theorem scBoxes : FnScope ["_law_well_here"] ["_law_well_here"] (defScope sBoxes) := ⟨rfl, rfl, rfl, by decide +kernel, rfl, by decide +kernel, by decide +kernel⟩
theorem scDealing : FnScope ["_law_well_here", "_law_boxes_here", "_law_most", "_law_steps", "_law_k", "_law_step"] ["_law_well_here", "_law_boxes_here", "_law_most"] (defScope sDealing) := ⟨rfl, rfl, rfl, by decide +kernel, rfl, by decide +kernel, by decide +kernel⟩
theorem scDealings : FnScope ["_law_well_here", "_law_many", "_law_most", "_law_boxes_here", "_law_k"] ["_law_well_here", "_law_many", "_law_most"] (defScope sDealings) := ⟨rfl, rfl, rfl, by decide +kernel, rfl, by decide +kernel, by decide +kernel⟩
section
variable {P : Program} {w : World} {K : PySem.W.Frag} {mg : Str → Option Value} {base : Heap}
/-! ### one -/
theorem TDs.pickIn {st : Addr} {H : Hp} {xs : List V} {ds : List D} {r : Int} (t : TDs st H xs ds) (h0 : 0 ≤ r) (h1 : r < xs.length) : ∃ v d, atI xs r = some v ∧ TD st H v d ∧ d ∈ ds := by
  obtain ⟨j, rfl⟩ : ∃ j : Nat, r = (j : Int) := ⟨r.toNat, by omega⟩
  have hj : j < xs.length := by omega
  have hx : xs[j]? = some xs[j] := List.getElem?_eq_getElem hj
  obtain ⟨d, hd, td⟩ := t.get hx
  exact ⟨xs[j], d, atI_nat hx, td, List.mem_of_getElem? hd⟩
def spOne : Sp := fun vs H Q _ => ∃ (st a : Addr) (xs : List V) (ds : List D), vs = [.ref st, .ref a] ∧ Well st H ∧ a ≠ st ∧ H a = some (.lst xs) ∧ TDs st H xs ds ∧ 1 ≤ xs.length ∧ xs.length ≤ 1000 ∧ ∀ v d H', TD st H' v d → d ∈ ds → Well st H' → ExS st H H' → Q v H'
theorem ok_one {f f1 : Addr} {fd fd1 : FuncData} {k : Nat} (F : Fun K "_law_one" "_law_one" sOne f fd) (M : Mg mg) (G1 : FnOk P w K mg base CX0 k f1 fd1 ["_law_well_here", "_law_many"] spDraw) (g1 : mg "_law_draw" = some (.ref f1)) (k1 : PySem.W.keepIn K (.ref f1) = true) (b1 : Binds K fd1 ["_law_well_here", "_law_many"] []) :
    FnOk P w K mg base CX0 (k + 1) f fd ["_law_well_here", "_law_some"] spOne := by
  refine F.ok scOne (fun vs H Q E h => ?_) (fun cdv A outer s H vs Q E hr h => ?_)
  · obtain ⟨st, a, xs, ds, rfl, _⟩ := h
    rfl
  · obtain ⟨st, a, xs, ds, rfl, hW, na, ha, t, h1, h2, q⟩ := h
    refine ⟨_, pss_one (ps_ret (pe_ix ix_list (pv 1) (pe_call G1 hr (by rfl) g1 k1 b1 .nil pass0 (pa_cons (pv 0) (pa_cons (pe_callB call_len_seq (by rfl) M.len PySem.boot_len (pa_cons (pv 1) pa_nil)) pa_nil))) (fun _ _ => rfl))), ?_⟩
    refine ⟨.ref a, rfl, .ref st, rfl, .ref a, rfl, a, xs, rfl, .inl (SqL.of ha), st, (xs.length : Int), rfl, hW, by omega, by omega, fun r H1 r0 r1 W1 e1 => ?_⟩
    obtain ⟨v, d, av, tv, md⟩ := (t.mono e1).pickIn r0 r1
    exact ⟨a, xs, r, v, rfl, rfl, SqL.of (e1 _ _ na ha), av, q v d H1 tv md W1 e1⟩
/-! ### boxes -/
def spBoxes : Sp := fun vs H Q _ => ∃ (st : Addr), vs = [.ref st] ∧ Well st H ∧ ∀ (p : Addr) (bs : List Int) (H' : Hp), 1 ≤ bs.length → bs.length ≤ 10 → (∀ b ∈ bs, boxB b = true) → p ≠ st → H p = none → H' p = some (.lst (bs.map V.int)) → Well st H' → ExS st H H' → Q (.ref p) H'
theorem ok_boxes {f f1 : Addr} {fd fd1 : FuncData} {k : Nat} (F : Fun K "_law_boxes" "_law_boxes" sBoxes f fd) (M : Mg mg) (G1 : FnOk P w K mg base CX0 k f1 fd1 ["_law_well_here", "_law_many"] spDraw) (g1 : mg "_law_draw" = some (.ref f1)) (k1 : PySem.W.keepIn K (.ref f1) = true) (b1 : Binds K fd1 ["_law_well_here", "_law_many"] []) :
    FnOk P w K mg base CX0 (k + 1) f fd ["_law_well_here"] spBoxes := by
  refine F.ok scBoxes (fun vs H Q E h => ?_) (fun cdv A outer s H vs Q E hr h => ?_)
  · obtain ⟨st, rfl, _⟩ := h
    rfl
  · obtain ⟨st, rfl, hW, q⟩ := h
    refine ⟨_, pss_cons (ps_if (pt_cmpR op_eq (pe_call G1 hr (by rfl) g1 k1 b1 .nil pass0 (pa_cons (pv 0) (pa_cons pe_int pa_nil))) pe_int (nomark _))
        (pss_one (ps_ret (pe_lst (pa_cons (pe_op op_pow pe_int pe_int) (pa_cons (pe_call G1 hr (by rfl) g1 k1 b1 .nil pass0 (pa_cons (pv 0) (pa_cons (pe_op op_pow pe_int pe_int) pa_nil))) (pa_cons (pe_sub (pe_add (pe_op op_pow pe_int pe_int) pe_int) (pe_op op_mul pe_int (pe_op op_pow pe_int pe_int))) pa_nil)))))) pss_nil)
      (pss_one (ps_ret (pe_listRg rfl (by rfl) M.list (prg_1 (by rfl) M.range (pe_add pe_int (pe_call G1 hr (by rfl) g1 k1 b1 .nil pass0 (pa_cons (pv 0) (pa_cons pe_int pa_nil)))))))), ?_⟩
    have free : ∀ {H1 : Hp} {p : Addr}, ExS st H H1 → Well st H1 → H1 p = none → H p = none := fun {H1 p} e1 W1 hp => by
      cases hq : H p with
      | none => rfl
      | some o =>
        by_cases z : p = st
        · exact absurd z (W1.ne hp)
        · rw [e1 p o z hq] at hp
          cases hp
    refine ⟨.ref st, rfl, st, 8, rfl, hW, by decide, by decide, fun r H1 r0 r1 W1 e1 => ⟨rfl, _, rfl, ite2 (fun _ => ?_) (fun _ => ?_)⟩⟩
    · refine ⟨10, 8, rfl, rfl, ⟨by decide, by decide, by decide⟩, .ref st, rfl, 10, 8, rfl, rfl, ⟨by decide, by decide, by decide⟩, st, 100000000, rfl, W1, by decide, by decide, fun r2 H2 r20 r21 W2 e2 => ?_⟩
      refine ⟨10, 8, rfl, rfl, ⟨by decide, by decide, by decide⟩, _, 1, rfl, rfl, 10, 7, rfl, rfl, ⟨by decide, by decide, by decide⟩, 2, _, rfl, rfl, .inl ⟨by decide, by decide⟩, _, _, rfl, rfl, by show 3 ≤ sizeLine; decide, fun p np => ?_⟩
      refine q p [100000000, r2, 80000001] _ (show 1 ≤ 3 by decide) (show 3 ≤ 10 by decide) (fun b hb => ?_) (W2.ne np) (free (e1.trans e2) W2 np) upd_same (W2.same (same_new np)) ((e1.trans e2).trans (ExS.new np))
      have hr2 : boxB r2 = true := by
        unfold boxB
        rw [decide_eq_true r20, decide_eq_true (show r2 ≤ 100000000 by omega)]
        rfl
      simp only [List.mem_cons, List.not_mem_nil, or_false] at hb
      rcases hb with rfl | rfl | rfl
      · decide
      · exact hr2
      · decide
    · refine ⟨.ref st, rfl, st, 4, rfl, W1, by decide, by decide, fun r2 H2 r20 r21 W2 e2 => ⟨2, r2, rfl, rfl, 2 + r2, rfl, RgOk.of_le (by omega) (by omega) (by omega) (by omega), fun p np => ?_⟩⟩
      obtain ⟨n, hn⟩ : ∃ n : Nat, 2 + r2 = (n : Int) := ⟨(2 + r2).toNat, by omega⟩
      have er : rgV 0 (2 + r2) = (rng n).map V.int := by
        rw [hn]
        unfold rgV rng
        rw [List.map_map, show (((n : Nat) : Int) - 0).toNat = n by omega]
        refine List.map_congr_left fun i _ => ?_
        show V.int (0 + (i : Nat)) = V.int (i : Nat)
        rw [Int.zero_add]
      refine q p (rng n) _ (by rw [rng_len]; omega) (by rw [rng_len]; omega) (fun b hb => ?_) (W2.ne np) (free (e1.trans e2) W2 np) (by rw [upd_same, er]) (W2.same (same_new np)) ((e1.trans e2).trans (ExS.new np))
      have hb' := rng_mem.mp hb
      unfold boxB
      rw [decide_eq_true hb'.1, decide_eq_true (show b ≤ 100000000 by omega)]
      rfl
/-! ### dealing -/
def StepsOk (l : List Pr) : Prop := ∀ p ∈ l, wordB p.1 = true ∧ boxB p.2 = true
def spDealing : Sp := fun vs H Q _ => ∃ (st pb : Addr) (bs : List Int) (m : Int), vs = [.ref st, .ref pb, .int m] ∧ Well st H ∧ pb ≠ st ∧ H pb = some (.lst (bs.map V.int)) ∧ 1 ≤ bs.length ∧ bs.length ≤ 10 ∧ (∀ b ∈ bs, boxB b = true) ∧ 0 < m ∧ m ≤ 8 ∧
  ∀ v l H', TD st H' v (dlD l) → okD l → (l.length : Int) ≤ m → Well st H' → ExS st H H' → Q v H'
theorem ok_dealing {f f1 f2 : Addr} {fd fd1 fd2 : FuncData} {k : Nat} (F : Fun K "_law_dealing" "_law_dealing" sDealing f fd) (M : Mg mg) (G1 : FnOk P w K mg base CX0 k f1 fd1 ["_law_well_here", "_law_many"] spDraw) (g1 : mg "_law_draw" = some (.ref f1)) (k1 : PySem.W.keepIn K (.ref f1) = true) (b1 : Binds K fd1 ["_law_well_here", "_law_many"] [])
    (G2 : FnOk P w K mg base CX0 k f2 fd2 ["_law_well_here", "_law_some"] spOne) (g2 : mg "_law_one" = some (.ref f2)) (k2 : PySem.W.keepIn K (.ref f2) = true) (b2 : Binds K fd2 ["_law_well_here", "_law_some"] []) :
    FnOk P w K mg base CX0 (k + 1) f fd ["_law_well_here", "_law_boxes_here", "_law_most"] spDealing := by
  refine F.ok scDealing (fun vs H Q E h => ?_) (fun cdv A outer s H vs Q E hr h => ?_)
  · obtain ⟨st, pb, bs, m, rfl, _⟩ := h
    rfl
  · obtain ⟨st, pb, bs, m, rfl, hW, npb, hpb, hb1, hb10, hbok, hm0, hm8, q⟩ := h
    refine ⟨_, pss_cons (ps_set (i := 3) scDealing.nd rfl (.inl rfl) (pe_lst pa_nil))
      (pss_cons (ps_for PassesOwn.never rfl (pi_range1 (by rfl) M.range (pa_cons (pe_add pe_int (pe_call G1 hr (by rfl) g1 k1 b1 .nil pass0 (pa_cons (pv 0) (pa_cons (pv 2) pa_nil)))) pa_nil)) (pg_name (i := 4) scDealing.nd rfl (.inl rfl))
        (pss_cons (ps_set (i := 5) scDealing.nd rfl (.inl rfl) (pe_tup (pa_cons (pe_call G2 hr (by rfl) g2 k2 b2 .nil pass0 (pa_cons (pv 0) (pa_cons (pe_lst (pa_cons pe_str (pa_cons pe_str pa_nil))) pa_nil))) (pa_cons (pe_call G2 hr (by rfl) g2 k2 b2 .nil pass0 (pa_cons (pv 0) (pa_cons (pv 1) pa_nil))) pa_nil))))
        (pss_one (ps_if (PW.pt (pw_and (pt_cmpR (op_notInD (hu65 hr)) (pv 5) (pv 3) (by rfl)) (pw_and1 (PW.pt (pw_or (pt_cmpR op_eq (pe_ix ix_tup (pv 5) pe_int (fun _ _ => rfl)) pe_str (nomark _)) (pw_or1 (pt_cmpR (op_notInD (hu65 hr)) (pe_tup (pa_cons pe_str (pa_cons (pe_ix ix_tup (pv 5) pe_int (fun _ _ => rfl)) pa_nil))) (pv 3) (by rfl))))))))
          (pss_one (ps_expr (pe_bm PySem.F.plainAttrs_list PySem.F.slot_list_append PySem.F.type_list_append mt_append (pv 3) (pa_cons (pv 5) pa_nil)))) pss_nil))))
      (pss_one (ps_ret (pe_callTy call_tuple_of (by rfl) M.tuple (by decide +kernel) (pa_cons (pv 3) pa_nil))))), ?_⟩
    refine ⟨Nat.zero_le _, fun o no => ?_⟩
    have nos : o ≠ st := hW.ne no
    refine ⟨.ref st, rfl, .int m, rfl, st, m, rfl, hW.same (same_new no), hm0, by omega, fun r H1 h0 h1 W1 e1 => ⟨1, r, rfl, rfl, 1 + r, rfl, by omega, by omega, ?_⟩⟩
    have ho1 : H1 o = some (.lst []) := e1 _ _ nos upd_same
    have eH1 : ExS st H H1 := (ExS.new no).trans e1
    refine for_range (lo := 0) (n := (1 + r).toNat) (fun i σ H' => ∃ y4 y5 xs l, σ = [some (.ref st), some (.ref pb), some (.int m), some (.ref o), y4, y5] ∧ H' o = some (.lst xs) ∧ TDs st H' xs (List.map stepD l) ∧ l.length ≤ i ∧ (1 ≤ i → 1 ≤ l.length) ∧ StepsOk l ∧ follow mayP l = true ∧ Well st H' ∧ ExS st H H')
      ⟨none, none, [], [], rfl, ho1, .nil, Nat.le_refl _, fun z => absurd z (by decide), (fun p hp => absurd hp List.not_mem_nil), rfl, W1, eH1⟩ (fun i σ H2 hi hP => ?_) (fun σ H2 hP => ?_)
    · obtain ⟨y4, y5, xs, l, rfl, ho, t, hl, hne, hok, hfo, W2, e2⟩ := hP
      refine ⟨.ref st, rfl, by show 2 ≤ sizeLine; decide, fun p np => ?_⟩
      have np_st : p ≠ st := W2.ne np
      have s2 := same_new (o := .lst [.str wR, .str wW]) np
      refine ⟨st, p, [.str wR, .str wW], [.str wR, .str wW], rfl, W2.same s2, np_st, upd_same, .cons (.str _) (.cons (.str _) .nil), by decide, by decide, fun v3 d3 H3 t3 m3 W3 e3 => ?_⟩
      obtain ⟨z, rfl, wz⟩ : ∃ z, v3 = .str z ∧ wordB z = true := by
        simp only [List.mem_cons, List.not_mem_nil, or_false] at m3
        rcases m3 with rfl | rfl
        · cases t3
          exact ⟨wR, rfl, by decide +kernel⟩
        · cases t3
          exact ⟨wW, rfl, by decide +kernel⟩
      have e23 : ExS st H2 H3 := (ExS.of s2).trans e3
      refine ⟨.ref st, rfl, .ref pb, rfl, st, pb, bs.map V.int, bs.map D.int, rfl, W3, npb, e23 _ _ npb (e2 _ _ npb hpb), ints_tds bs, by rw [List.length_map]; exact hb1, by rw [List.length_map]; omega, fun v4 d4 H4 t4 m4 W4 e4 => ?_⟩
      obtain ⟨r4, rfl, hb4⟩ : ∃ b, v4 = .int b ∧ boxB b = true := by
        obtain ⟨b, hb, rfl⟩ := List.mem_map.mp m4
        cases t4
        exact ⟨b, rfl, hbok b hb⟩
      refine ⟨by show 2 ≤ sizeLine; decide, fun p2 np2 => ?_⟩
      have e24 : ExS st H2 H4 := e23.trans e4
      have np2_st : p2 ≠ st := W4.ne np2
      have e25 : ExS st H2 (upd H4 p2 (.tup [.str z, .int r4])) := e24.trans (ExS.new np2)
      have W5 : Well st (upd H4 p2 (.tup [.str z, .int r4])) := W4.same (same_new np2)
      have ho5 := e25 _ _ nos ho
      have t5 := t.mono e25
      have tp : TD st (upd H4 p2 (.tup [.str z, .int r4])) (.ref p2) (stepD (z, r4)) := .tup np2_st upd_same (.cons (.str _) (.cons (.int _) .nil))
      have wl : ∀ q ∈ l, wordB q.1 = true := fun q hq => (hok q hq).1
      have hz : xs.length = l.length := by rw [t.length, List.length_map]
      have grow : ∀ {HX : Hp} {y4 y5 : Option V}, ExS st (upd H4 p2 (.tup [.str z, .int r4])) HX → Well st HX → mayP (z, r4) l = true → ∃ y4' y5' xs' l', [some (V.ref st), some (.ref pb), some (.int m), some (.ref o), y4, y5] = [some (V.ref st), some (.ref pb), some (.int m), some (.ref o), y4', y5'] ∧ (upd HX o (.lst (xs ++ [.ref p2]))) o = some (.lst xs') ∧ TDs st (upd HX o (.lst (xs ++ [.ref p2]))) xs' (List.map stepD l') ∧ l'.length ≤ i + 1 ∧ (1 ≤ i + 1 → 1 ≤ l'.length) ∧ StepsOk l' ∧ follow mayP l' = true ∧ Well st (upd HX o (.lst (xs ++ [.ref p2]))) ∧ ExS st H (upd HX o (.lst (xs ++ [.ref p2]))) := fun {HX y4 y5} eX WX hm => by
        have hoX := eX _ _ nos ho5
        refine ⟨y4, y5, xs ++ [.ref p2], l ++ [(z, r4)], rfl, upd_same, ?_, by rw [List.length_append]; show l.length + 1 ≤ i + 1; omega, fun _ => by rw [List.length_append]; show 1 ≤ l.length + 1; omega, ?_, follow_snoc hfo hm, ?_, ?_⟩
        · have h' : TDs st HX (xs ++ [.ref p2]) ((l ++ [(z, r4)]).map stepD) := by
            rw [List.map_append]
            exact (t5.mono eX).append (.cons (tp.mono eX) .nil)
          refine h'.stepsT fun a ys na ha => ?_
          rw [upd_ne]
          · exact ha
          · intro e
            rw [e, hoX] at ha
            cases ha
        · intro q hq
          rcases List.mem_append.mp hq with h | h
          · exact hok q h
          · rw [List.mem_singleton.mp h]
            exact ⟨wz, hb4⟩
        · obtain ⟨a1, b1, c1, h⟩ := WX
          exact ⟨a1, b1, c1, by rw [upd_ne (Ne.symm nos)]; exact h⟩
        · intro a u na ha
          rw [upd_ne (ne_of_none ha no)]
          exact eX _ _ na (e25 _ _ na (e2 _ _ na ha))
      refine ⟨.ref p2, rfl, .ref o, rfl, stepP (z, r4), l.map stepP, tp.stepDp, .lst (SqL.of ho5) t5.stepsDp, stepP_shaped wz, stepPs_shapedL wl, _, rfl, ?_⟩
      rw [any_step]
      cases h1m : decide ((z, r4) ∈ l) with
      | true =>
        refine iteF (iteF ?_)
        exact ⟨_, _, xs, l, rfl, ho5, t5, by omega, fun _ => List.length_pos_of_mem (of_decide_eq_true h1m), hok, hfo, W5, e2.trans e25⟩
      | false =>
        refine iteT ⟨.ref p2, rfl, p2, [.str z, .int r4], 0, .str z, rfl, rfl, SqT.of upd_same, rfl, rfl, _, rfl, ite2 (fun hw => ?_) (fun hw => ?_)⟩
        · have ez : z = wW := V.str.inj (of_decide_eq_true hw)
          refine iteT ⟨.ref o, rfl, .inl ⟨rfl, _, SqL.of ho5⟩, .ref p2, rfl, o, xs, .ref p2, rfl, rfl, ho5, sl_lt (by omega), grow (ExS.refl _ _) W5 ?_⟩
          unfold mayP
          subst ez
          rw [h1m]
          rfl
        · refine ⟨.ref p2, rfl, p2, [.str z, .int r4], 1, .int r4, rfl, rfl, SqT.of upd_same, rfl, by show 2 ≤ sizeLine; decide, fun c nc => ?_⟩
          have e56 : ExS st (upd H4 p2 (.tup [.str z, .int r4])) (upd (upd H4 p2 (.tup [.str z, .int r4])) c (.tup [.str wW, .int r4])) := ExS.new nc
          have e26 := e25.trans e56
          have W6 := W5.same (same_new (o := .tup [.str wW, .int r4]) nc)
          have ho6 := e26 _ _ nos ho
          have t6 := t.mono e26
          refine ⟨.ref o, rfl, stepP (wW, r4), l.map stepP, .tup (SqT.of upd_same) (.cons (.str _) (.cons (.int _) .nil)), .lst (SqL.of ho6) t6.stepsDp, stepP_shaped (show wordB wW = true by decide +kernel), stepPs_shapedL wl, _, rfl, ?_⟩
          rw [any_step]
          cases h2m : decide ((wW, r4) ∈ l) with
          | true =>
            refine iteF ?_
            exact ⟨_, _, xs, l, rfl, ho6, t6, by omega, fun _ => List.length_pos_of_mem (of_decide_eq_true h2m), hok, hfo, W6, e2.trans e26⟩
          | false =>
            refine iteT ⟨.ref o, rfl, .inl ⟨rfl, _, SqL.of ho6⟩, .ref p2, rfl, o, xs, .ref p2, rfl, rfl, ho6, sl_lt (by omega), grow e56 W6 ?_⟩
            unfold mayP
            rw [h1m, h2m]
            rfl
    · obtain ⟨y4, y5, xs, l, rfl, ho, t, hl, hne, hok, hfo, W2, e2⟩ := hP
      refine ⟨.ref o, rfl, o, xs, rfl, .inl ⟨SqL.of ho, fun p np => q (.ref p) l _ (.tup (W2.ne np) upd_same (t.mono (ExS.new np))) ⟨hok, hne (by omega), by omega, hfo⟩ (by omega) (W2.same (same_new np)) (e2.trans (ExS.new np))⟩⟩
end
end As

namespace As
open PySem PySem.Spec PyProof.Rows L2
theorem TD.dealT {st : Addr} {H H' : Hp} (e : ∀ a ys, a ≠ st → H a = some (.tup ys) → H' a = some (.tup ys)) {v : V} {l : List Pr} (h : TD st H v (dlD l)) : TD st H' v (dlD l) := by
  cases h with
  | tup n h t => exact .tup n (e _ _ n h) (t.stepsT e)
theorem TDs.dealsT {st : Addr} {H H' : Hp} (e : ∀ a ys, a ≠ st → H a = some (.tup ys) → H' a = some (.tup ys)) : ∀ {ls : List (List Pr)} {vs : List V}, TDs st H vs (ls.map dlD) → TDs st H' vs (ls.map dlD)
  | [], _, h => by
    cases h
    exact .nil
  | l :: ls, _, h => by
    cases h with
    | cons h t => exact .cons (h.dealT e) (t.dealsT e)
theorem free_of {st : Addr} {H H1 : Hp} {p : Addr} (e1 : ExS st H H1) (W1 : Well st H1) (hp : H1 p = none) : H p = none := by
  cases hq : H p with
  | none => rfl
  | some o =>
    by_cases z : p = st
    · exact absurd z (W1.ne hp)
    · rw [e1 p o z hq] at hp
      cases hp
section
variable {P : Program} {w : World} {K : PySem.W.Frag} {mg : Str → Option Value} {base : Heap}
/-! ### dealings -/
def spDealings : Sp := fun vs H Q _ => ∃ (st : Addr) (n : Nat) (m : Int), vs = [.ref st, .int n, .int m] ∧ Well st H ∧ n ≤ 100 ∧ 0 < m ∧ m ≤ 8 ∧
  ∀ p ls H', TD st H' (.ref p) (dsD ls) → ls.length = n → (∀ l ∈ ls, okD l) → H p = none → Well st H' → ExS st H H' → Q (.ref p) H'
theorem ok_dealings {f f1 f2 : Addr} {fd fd1 fd2 : FuncData} {k : Nat} (F : Fun K "_law_dealings" "_law_dealings" sDealings f fd) (M : Mg mg) (G1 : FnOk P w K mg base CX0 k f1 fd1 ["_law_well_here"] spBoxes) (g1 : mg "_law_boxes" = some (.ref f1)) (k1 : PySem.W.keepIn K (.ref f1) = true) (b1 : Binds K fd1 ["_law_well_here"] [])
    (G2 : FnOk P w K mg base CX0 k f2 fd2 ["_law_well_here", "_law_boxes_here", "_law_most"] spDealing) (g2 : mg "_law_dealing" = some (.ref f2)) (k2 : PySem.W.keepIn K (.ref f2) = true) (b2 : Binds K fd2 ["_law_well_here", "_law_boxes_here", "_law_most"] []) :
    FnOk P w K mg base CX0 (k + 1) f fd ["_law_well_here", "_law_many", "_law_most"] spDealings := by
  refine F.ok scDealings (fun vs H Q E h => ?_) (fun cdv A outer s H vs Q E hr h => ?_)
  · obtain ⟨st, n, m, rfl, _⟩ := h
    rfl
  · obtain ⟨st, n, m, rfl, hW, hn, hm0, hm8, q⟩ := h
    refine ⟨_, pss_cons (ps_set (i := 3) scDealings.nd rfl (.inr rfl) (pe_call G1 hr (by rfl) g1 k1 b1 .nil pass0 (pa_cons (pv 0) pa_nil)))
      (pss_one (ps_ret (pe_lc (own := [("_law_k", 4)]) (g := gName 4) (by rfl) scDealings.nd (pi_range1 (by rfl) M.range (pa_cons (pv 1) pa_nil)) (blkOk_by (own := [("_law_k", 4)]) (N := ["_law_well_here", "_law_many", "_law_most", "_law_boxes_here", "_law_k"]) (sc := defScope sDealings) (by decide +kernel))
        (fun _ _ _ _ _ => pg_name (i := 4) scDealings.nd rfl (Or.inl rfl)) (fun _ _ _ _ _ => pts_nil) (fun _ _ _ _ _ => pe_call G2 hr (by rfl) g2 k2 b2 .nil pass0 (pa_cons (pv 0) (pa_cons (pv 3) (pa_cons (pv 2) pa_nil))))))), ?_⟩
    refine ⟨.ref st, rfl, st, rfl, hW, fun pb bs H1 hb1 hb10 hbok npb npbH hpb W1 e1 => ?_⟩
    refine ⟨.int n, rfl, n, rfl, by omega, by omega, fun D1 nD => ?_⟩
    have nDst : D1 ≠ st := W1.ne nD
    have nDb : D1 ≠ pb := (ne_of_none hpb nD).symm
    rw [Int.toNat_natCast]
    refine lc_it (walk_range (lo := 0) (n := n)) (fun i H' => ∃ xs ls, H' D1 = some (.lst xs) ∧ TDs st H' xs (List.map dlD ls) ∧ ls.length = i ∧ (∀ l ∈ ls, okD l) ∧ H' pb = some (.lst (bs.map V.int)) ∧ Well st H' ∧ ExS st H H') ⟨[], [], upd_same, .nil, rfl, (fun l hl => absurd hl List.not_mem_nil), same_new nD _ _ hpb, W1.same (same_new nD), e1.trans (ExS.new nD)⟩ (fun _ _ _ _ => trivial) (fun i y H4 H5 hi hP hy => ?_) (fun H4 hP => ?_)
    · obtain ⟨xs, ls, hD, t, hl, hok, hb, W4, e4⟩ := hP
      obtain ⟨rfl, rfl⟩ := hy
      refine ⟨rfl, yesI ⟨.ref st, rfl, .ref pb, rfl, .int m, rfl, st, pb, bs, m, rfl, W4, npb, hb, hb1, hb10, hbok, hm0, hm8, fun v l H6 tv okl _ W6 e6 => ?_⟩⟩
      have hD6 := e6 _ _ nDst hD
      have hz : xs.length = ls.length := by rw [t.length, List.length_map]
      refine ⟨xs, hD6, sl_lt (by omega), xs ++ [v], ls ++ [l], upd_same, ?_, by rw [List.length_append]; show ls.length + 1 = i + 1; omega, ?_, ?_, ?_, ?_⟩
      · have h' : TDs st H6 (xs ++ [v]) ((ls ++ [l]).map dlD) := by
          rw [List.map_append]
          exact (t.mono e6).append (.cons tv .nil)
        refine h'.dealsT fun a ys na ha => ?_
        rw [upd_ne]
        · exact ha
        · intro e
          rw [e, hD6] at ha
          cases ha
      · intro q hq
        rcases List.mem_append.mp hq with h | h
        · exact hok q h
        · rw [List.mem_singleton.mp h]
          exact okl
      · rw [upd_ne (Ne.symm nDb)]
        exact e6 _ _ npb hb
      · obtain ⟨a1, b1, c1, h⟩ := W6
        exact ⟨a1, b1, c1, by rw [upd_ne (Ne.symm nDst)]; exact h⟩
      · intro a u na ha
        have nDH : H D1 = none := free_of e1 W1 nD
        rw [upd_ne (ne_of_none ha nDH)]
        exact e6 _ _ na (e4 _ _ na ha)
    · obtain ⟨xs, ls, hD, t, hl, hok, hb, W4, e4⟩ := hP
      exact q D1 ls H4 (.lst nDst hD t) hl hok (free_of e1 W1 nD) W4 e4
theorem erase_perm : ∀ {l : List Int} {i : Nat} (h : i < l.length), (l[i] :: l.eraseIdx i).Perm l
  | [], _, h => absurd h (Nat.not_lt_zero _)
  | _ :: _, 0, _ => .refl _
  | a :: l, i + 1, h => (List.Perm.swap a (l[i]'(Nat.lt_of_succ_lt_succ h)) _).trans ((erase_perm (Nat.lt_of_succ_lt_succ h)).cons a)
theorem eraseV : ∀ (l : List Int) (i : Nat), (l.map V.int).eraseIdx i = (l.eraseIdx i).map V.int
  | [], _ => rfl
  | _ :: _, 0 => rfl
  | a :: l, i + 1 => congrArg (V.int a :: ·) (eraseV l i)
theorem rg_rng (n : Nat) : rgV 0 (n : Nat) = (rng n).map V.int := by
  unfold rgV rng
  rw [List.map_map, show (((n : Nat) : Int) - 0).toNat = n by omega]
  refine List.map_congr_left fun i _ => ?_
  show V.int (0 + (i : Nat)) = V.int (i : Nat)
  rw [Int.zero_add]
end
end As

namespace As
open PySem PySem.Spec PyProof.Rows L2
/-! ### list.count of truths -/
theorem vals_bools : ∀ {bs : List Bool} {its : List Value}, Vals (bs.map V.bl) its → its = bs.map Value.bool
  | [], _, h => by
    cases h
    rfl
  | b :: bs, _, h => by
    cases h with
    | cons r t =>
      have e := vals_bools t
      subst e
      cases r
      rfl
def eqb (k : Bool) : Value → Bool
  | .bool b => b == k
  | _ => false
def rCntB (K : PySem.W.Frag) : V → List V → Hp → VK → Prop := fun x xs H Q => ∃ (p : Addr) (bs : List Bool) (k : Bool), x = .ref p ∧ xs = [.bl k] ∧ SqL K H p (bs.map V.bl) ∧ Q (.int ((bs.count k : Nat) : Int)) H
theorem mt_lcountB {X : Cx} : MtR X "list.count" (rCntB X.K) := by
  intro pins s σ H x xs v us Q I rx rxs h
  obtain ⟨p, bs, k, rfl, rfl, hs, q⟩ := h
  cases rx
  obtain ⟨u, rfl, ru⟩ := rxs.one
  cases ru
  obtain ⟨its, rv, ⟨⟨cls, dd, data, sl⟩, n, ho, hc, hdn, hd⟩, hlen⟩ := I.list hs
  simp only at hc hd
  subst hc hd
  have hi := vals_bools rv
  subst hi
  refine call_meets PySem.F.slot_list_count ⟨_, ho, rfl⟩ PySem.F.entry_list_count (PySem.F.args_list_count_2 _ _)
    (SeqAt.list_countAt p (bs.map Value.bool).toArray n dd sl (.bool k) (eqb k)) ⟨ho, fun y hy => ?_, ?_⟩
  · have hy' : y ∈ bs.map Value.bool := by simpa using hy
    obtain ⟨b, _, rfl⟩ := List.mem_map.mp hy'
    exact eqAt_V (y := .bl b) (x := .bl k) rfl rfl rfl rfl
  · have ec : (bs.map Value.bool).toArray.toList.countP (eqb k) = bs.count k := by
      show (bs.map Value.bool).countP (eqb k) = bs.count k
      rw [List.countP_map]
      rfl
    refine ⟨.int ((bs.count k : Nat) : Int), H, I.tok _, ⟨s.toks, ?_⟩, q⟩
    rw [ec]
/-! ### told -/
abbrev sTold : Stmt := topS 36
abbrev nTold : List Str := ["_law_ask", "_law_e", "_law_marks"]
theorem scTold : FnScope nTold ["_law_ask"] (defScope sTold) := ⟨rfl, rfl, rfl, by decide +kernel, rfl, by decide +kernel, by decide +kernel⟩
/-- the classes of errors as told asks them -/
structure Tl (K : PySem.W.Frag) (mg : Str → Option Value) (CA CS CW CO CN : Addr) : Prop where
  gA : mg "AloneError" = some (.ref CA)
  gS : mg "NoDealings" = some (.ref CS)
  gW : mg "NoWeaving" = some (.ref CW)
  gO : mg "NoOrder" = some (.ref CO)
  gN : mg "NoNumber" = some (.ref CN)
  vE : mg "ValueError" = none
/-- an error's class beside the others -/
structure Ki (K : PySem.W.Frag) (C CA CS CW CO CN : Addr) (bS bO : Bool) : Prop where
  eA : PySem.W.exmOne K (.ref C) (.ref CA) = some true
  eC : ExcC K C
  iS : PySem.W.kitOne K (.ref C) (.ref CS) = some bS
  iW : PySem.W.kitOne K (.ref C) (.ref CW) = some false
  iO : PySem.W.kitOne K (.ref C) (.ref CO) = some bO
  iN : PySem.W.kitOne K (.ref C) (.ref CN) = some false
  iV : PySem.W.kitOne K (.ref C) (.type "ValueError") = some true
def pDue (z : Str) (H : Hp) (Q : VK) : Prop := ∀ p H', H p = none → Same H H' → H' p = some (.tup [.str z, .non]) → Q (.ref p) H'
def ErrK (CS CO : Addr) (Q : VK) : XK := fun cls d H' => d = none ∧ (cls = .ref CS ∧ pDue "dealings" H' Q ∨ cls = .ref CO ∧ pDue "order" H' Q)
/-- what the asker of a lambda makes of it -/
def TTo (CS CO : Addr) : (XK → Hp → VK → Prop) → Hp → VK → Prop := fun tl H Q => tl (ErrK CS CO Q) H (fun v H1 => [V.str "told", v].length ≤ sizeLine ∧ ∀ p, H1 p = none → Q (.ref p) (upd H1 p (.tup [.str "told", v])))
theorem told_gives12 {X : Cx} {CA CS CW CO CN : Addr} (T : Tl X.K X.mg CA CS CW CO CN) (KS : Ki X.K CS CA CS CW CO CN true false) (KO : Ki X.K CO CA CS CW CO CN false true) (M : Mg X.mg) {g : Addr} {cdg : Value} {q : Str} :
    LamX.GivesTo X nTold "_law_told" (defScope sTold) g cdg (defBody sTold) "_law_ask" q (TTo CS CO) := by
  intro f c' s H Q tl act hc h
  refine ⟨_, pss_one (ps_try_as (i := 1) (c := .ref CA)
      (tb := fun W D σ H => ∃ Ech : XK, (∀ cls d σ' H', Ech cls d H' → W cls d σ' H') ∧ σ[0]? = some (some (.ref f)) ∧ H c' = some (LamX.CodeO c' q) ∧ tl Ech H (fun v H1 => [V.str "told", v].length ≤ sizeLine ∧ ∀ p, H1 p = none → D.rt (.ref p) (upd H1 p (.tup [.str "told", v]))))
      (ts := fun a cls d D σ H => ErrK CS CO D.rt cls d H ∧ (σ.length = 3 → σ[1]? = some (some (.ref a))))
      rfl rfl scTold.nd rfl rfl ⟨by rfl, by decide, .inl T.gA⟩ LamX.takes0 (fun W pn xe tk _ => ?_) (fun a oe cls d pn hz hf => ?_)), ?_⟩
  · refine ⟨fun pins s' σ H' D I h' => ?_⟩
    obtain ⟨Ech, hW, h1, h2, h3⟩ := h'
    exact (pss_one (ps_ret (pe_tup (pa_cons pe_str (pa_cons (act W pn xe Ech _ _ tk hW) pa_nil))))).run pins s' σ H' D I ⟨h1, h2, h3⟩
  · refine ⟨fun pins s' σ H' D I h' => ?_⟩
    obtain ⟨h1, h2⟩ := h'
    have hlen : σ.length = 3 := I.len
    have hs1 := h2 hlen
    obtain ⟨C, bS, bO, z, KI, hz, hcnt, hj, hd⟩ : ∃ (C : Addr) (bS bO : Bool) (z : Str), Ki X.K C CA CS CW CO CN bS bO ∧ Zc (.ref C) none oe ∧ [bS, false, bO, false].count true = 1 ∧ (∃ j : Nat, [V.bl bS, V.bl false, V.bl bO, V.bl false][j]? = some (.bl true) ∧ (∀ (m : Nat) (z' : V), m < j → [V.bl bS, V.bl false, V.bl bO, V.bl false][m]? = some z' → eqV z' (.bl true) = false) ∧ [V.str "dealings", V.str "", V.str "order", V.str "number"][j]? = some (.str z)) ∧ pDue z H' D.rt := by
      obtain ⟨rfl, h1 | h1⟩ := h1
      · obtain ⟨rfl, hd⟩ := h1
        exact ⟨CS, true, false, _, KS, hz, rfl, ⟨0, rfl, fun m z' hm _ => absurd hm (Nat.not_lt_zero _), rfl⟩, hd⟩
      · obtain ⟨rfl, hd⟩ := h1
        refine ⟨CO, false, true, _, KO, hz, rfl, ⟨2, rfl, fun m z' hm hz => ?_, rfl⟩, hd⟩
        match m, hm, hz with
        | 0, _, hz => cases hz; rfl
        | 1, _, hz => cases hz; rfl
    have isE := call_isE (X := (cxOf C8.CX0 X.prog X.w X.K X.mg X.base nTold "_law_told" (defScope sTold) g cdg X.A X.stack s H C8.E0).nox) (a := a) (pn := pn) (D := C) KI.eC hz hf
    refine (pss_cons (ps_set (i := 2) scTold.nd rfl (.inl rfl) (pe_lst (pa_cons (pe_callB isE (by rfl) M.isinstance (by decide +kernel) (pa_cons (pv 1) (pa_cons (pe_glob (v := .ref CS) (by rfl) T.gS rfl) pa_nil)))
        (pa_cons (pe_callB isE (by rfl) M.isinstance (by decide +kernel) (pa_cons (pv 1) (pa_cons (pe_glob (v := .ref CW) (by rfl) T.gW rfl) pa_nil)))
        (pa_cons (pe_callB isE (by rfl) M.isinstance (by decide +kernel) (pa_cons (pv 1) (pa_cons (pe_glob (v := .ref CO) (by rfl) T.gO rfl) pa_nil)))
        (pa_cons (pe_callB isE (by rfl) M.isinstance (by decide +kernel) (pa_cons (pv 1) (pa_cons (pe_glob (v := .ref CN) (by rfl) T.gN rfl) pa_nil))) pa_nil))))))
      (pss_cons (ps_if (PW.pt (pw_or (pt_cmpR op_ne (pe_bm PySem.F.plainAttrs_list PySem.F.slot_list_count PySem.F.type_list_count mt_lcountB (pv 2) (pa_cons pe_bl pa_nil)) pe_int (nomark _))
          (pw_or1 (pt_not (pt_val (pe_callB isE (by rfl) M.isinstance (by decide +kernel) (pa_cons (pv 1) (pa_cons (pe_bltn (v := .ty "ValueError") (by rfl) T.vE (by decide +kernel) rfl) pa_nil)))))))) pss_never pss_nil)
      (pss_cons (ps_if (pt_val (pe_ix ix_list (pv 2) pe_int (fun _ _ => rfl))) pss_never pss_nil)
      (pss_one (ps_ret (pe_tup (pa_cons (pe_ix ix_list (pe_lst (pa_cons pe_str (pa_cons pe_str (pa_cons pe_str (pa_cons pe_str pa_nil))))) (pe_bm PySem.F.plainAttrs_list PySem.F.slot_list_index PySem.F.type_list_index mt_index (pv 2) (pa_cons pe_bl pa_nil)) (fun _ _ => rfl)) (pa_cons pe_non pa_nil)))))))).run pins s' σ H' D I ?_
    match σ, hlen, hs1 with
    | [x0, x1, x2], _, hs1 =>
    have hs1' : x1 = some (.ref a) := Option.some.inj hs1
    subst hs1'
    refine ⟨.ref a, rfl, .ref CS, .ref CS, bS, rfl, fun u r => r, KI.iS, .ref a, rfl, .ref CW, .ref CW, false, rfl, fun u r => r, KI.iW, .ref a, rfl, .ref CO, .ref CO, bO, rfl, fun u r => r, KI.iO, .ref a, rfl, .ref CN, .ref CN, false, rfl, fun u r => r, KI.iN, by show 4 ≤ sizeLine; decide, fun pm npm => ?_⟩
    have sM : SqL X.K (upd H' pm (.lst [.bl bS, .bl false, .bl bO, .bl false])) pm ([bS, false, bO, false].map V.bl) := SqL.of upd_same
    refine ⟨.ref pm, rfl, .inl ⟨rfl, _, sM⟩, pm, _, true, rfl, rfl, sM, rfl, _, rfl, ?_⟩
    rw [hcnt]
    refine iteF ⟨.ref a, rfl, .ty "ValueError", .type "ValueError", true, rfl, fun u r => r, KI.iV, _, rfl, iteF ?_⟩
    refine ⟨.ref pm, rfl, pm, _, 1, .bl false, rfl, rfl, sM, rfl, _, rfl, iteF ?_⟩
    refine ⟨by show 4 ≤ sizeLine; decide, fun pw npw => ?_⟩
    obtain ⟨j, hj1, hj2, hj3⟩ := hj
    have s2 := same_new (o := .lst [.str "dealings", .str "", .str "order", .str "number"]) npw
    refine ⟨.ref pm, rfl, .inl ⟨rfl, _, SqL.of (s2 _ _ upd_same)⟩, pm, _, .bl true, j, .bl true, rfl, rfl, SqL.of (s2 _ _ upd_same), rfl, rfl, hj1, rfl, hj2, ?_⟩
    refine ⟨pw, _, j, .str z, rfl, rfl, SqL.of upd_same, atI_nat hj3, by show 2 ≤ sizeLine; decide, fun pt npt => ?_⟩
    have s12 : Same H' _ := Same.trans (same_new (o := .lst [.bl bS, .bl false, .bl bO, .bl false]) npm) s2
    exact hd pt _ (Same.free s12 npt) (Same.new s12 npt) upd_same
  · refine ⟨ErrK CS CO Q, fun cls d σ' H' hE => ?_, rfl, hc, h⟩
    have hb : PySem.W.exmOne X.K cls (.ref CA) = some true := by
      obtain ⟨rfl, h1 | h1⟩ := hE
      · rw [h1.1]; exact KS.eA
      · rw [h1.1]; exact KO.eA
    refine ⟨true, hb, fun _ a na => ⟨hE, fun hl => ?_⟩, fun z => absurd z.symm Bool.false_ne_true⟩
    rw [List.length_set] at hl
    exact List.getElem?_set_self (by omega)
end As

namespace As
open PySem PySem.Spec PyProof.Rows L2
/-! ### data that keep away from two places -/
mutual
theorem TD.both {o st : Addr} {H H' : Hp} (e : ExS o H H') : ∀ {v : V} {d : D}, TD o H v d → TD st H v d → TD st H' v d
  | _, _, .non, _ => .non
  | _, _, .bl b, _ => .bl b
  | _, _, .int i, _ => .int i
  | _, _, .str z, _ => .str z
  | _, _, .tup n h t, .tup n2 h2 t2 => .tup n2 (e _ _ n h2) (TDs.both e (by rw [h] at h2; cases h2; exact t) t2)
  | _, _, .lst n h t, .lst n2 h2 t2 => .lst n2 (e _ _ n h2) (TDs.both e (by rw [h] at h2; cases h2; exact t) t2)
  | _, _, .dct n h, .dct n2 h2 => .dct n2 (e _ _ n h2)
theorem TDs.both {o st : Addr} {H H' : Hp} (e : ExS o H H') : ∀ {vs : List V} {ds : List D}, TDs o H vs ds → TDs st H vs ds → TDs st H' vs ds
  | _, _, .nil, _ => .nil
  | _, _, .cons h t, .cons h2 t2 => .cons (TD.both e h h2) (TDs.both e t t2)
end
theorem rng_nodup (n : Nat) : (rng n).Nodup := by
  unfold rng List.Nodup
  rw [List.pairwise_map]
  exact List.pairwise_lt_range.imp fun h => by omega
theorem ints_inj : ∀ {a b : List Int}, a.map D.int = b.map D.int → a = b
  | [], [], _ => rfl
  | [], _ :: _, h => by cases h
  | _ :: _, [], h => by cases h
  | x :: a, y :: b, h => by
    rw [List.map_cons, List.map_cons] at h
    have h1 := List.cons.inj h
    rw [ints_inj h1.2, D.int.inj h1.1]
theorem cut_from (xs : List V) (j : Nat) (h : j < xs.length) : cutV xs (some ((j : Int) + 1)) none = xs.drop (j + 1) := by
  show cutV xs (some ((j + 1 : Nat) : Int)) none = _
  unfold cutV
  rw [HT.sIx_none, HT.sIx_nat, Nat.min_eq_left (by omega), List.take_of_length_le (by rw [List.length_drop]; omega)]
theorem noPart {σ : L2.St} {H : Hp} {R : Option Int → Hp → Prop} (h : R none H) : tNoPart σ H R := h
/-- the place ahead, round -/
theorem at_ahead {xs : List V} {j : Nat} (h : j < xs.length) : ∃ i, i < xs.length ∧ (1 < xs.length → i ≠ j) ∧ atI xs ((j : Int) - 1) = xs[i]? := by
  by_cases z : j = 0
  · subst z
    refine ⟨xs.length - 1, by omega, by omega, ?_⟩
    unfold atI ixN
    rw [if_neg (by omega), if_pos (by omega)]
    show xs[_]? = _
    congr 1
    omega
  · refine ⟨j - 1, by omega, by omega, ?_⟩
    unfold atI ixN
    rw [if_pos (by omega), if_pos (by omega)]
    show xs[_]? = _
    congr 1
    omega
end As

namespace As
open PySem PySem.Spec PyProof.Rows L2
/-! ### a state between -/
theorem ps_mid {X : Cx} {st : Stmt} {t : TS} (h : PS X st t) : PS X st (fun D σ H => ∃ J : L2.St → Hp → Prop, t { D with nx := J } σ H ∧ ∀ σ' H', J σ' H' → D.nx σ' H') := by
  refine ⟨fun pins s σ H D I h' => ?_⟩
  obtain ⟨J, h1, h2⟩ := h'
  refine wpAny_mono (h.run pins s σ H _ I h1) (fun f s' hs => ?_) fun _ _ x => x
  cases f with
  | next =>
    obtain ⟨σ', H', I', q⟩ := hs
    exact ⟨σ', H', I', h2 _ _ q⟩
  | brk => exact hs
  | cont => exact hs
  | ret u => exact hs
/-! ### heaps, but for the well and for the tables of code objects -/
def ExM (st : Addr) (H H' : Hp) : Prop := ∀ b o, b ≠ st → (∀ ps, o ≠ HO.tbl ps) → H b = some o → H' b = some o
theorem ExM.trans {st : Addr} {H H1 H2 : Hp} (a : ExM st H H1) (b : ExM st H1 H2) : ExM st H H2 := fun x o n z h => b x o n z (a x o n z h)
theorem ExM.ofS {st : Addr} {H H' : Hp} (e : ExS st H H') : ExM st H H' := fun b o n _ h => e b o n h
theorem ExM.ofN {st : Addr} {H H' : Hp} (e : LamX.ExtN H H') : ExM st H H' := fun b o _ z h => e b o h z
theorem ExM.same {st : Addr} {H H' : Hp} (e : Same H H') : ExM st H H' := fun b o _ _ h => e b o h
theorem ExM.lst {st a : Addr} {H H' : Hp} {xs : List V} (e : ExM st H H') (n : a ≠ st) (h : H a = some (.lst xs)) : H' a = some (.lst xs) := e _ _ n (fun _ z => nomatch z) h
theorem TD.monoM {st : Addr} {H H' : Hp} (e : ExM st H H') {v : V} {d : D} (h : TD st H v d) : TD st H' v d := by
  refine TD.rec (motive_1 := fun v d _ => TD st H' v d) (motive_2 := fun vs ds _ => TDs st H' vs ds) ?_ ?_ ?_ ?_ ?_ ?_ ?_ ?_ ?_ h
  · exact .non
  · exact fun b => .bl b
  · exact fun i => .int i
  · exact fun z => .str z
  · intro a xs ds n h _ t
    have z : ∀ ps, HO.tup xs ≠ HO.tbl ps := fun _ z => nomatch z
    exact TD.tup n (e _ _ n z h) t
  · intro a xs ds n h _ t
    have z : ∀ ps, HO.lst xs ≠ HO.tbl ps := fun _ z => nomatch z
    exact TD.lst n (e _ _ n z h) t
  · intro a n h
    have z : ∀ ps, HO.dK [] ≠ HO.tbl ps := fun _ z => nomatch z
    exact TD.dct n (e _ _ n z h)
  · exact .nil
  · exact fun _ _ h t => .cons h t
theorem Well.monoN {st : Addr} {H H' : Hp} (e : LamX.ExtN H H') (h : Well st H) : Well st H' := by
  obtain ⟨a, b, c, h⟩ := h
  exact ⟨a, b, c, e _ _ h fun _ z => nomatch z⟩
theorem tabs_well {T : List (Addr × Str)} {H H' : Hp} {st : Addr} (W : Well st H) (e : ExS st H H') (t : LamX.Tabs T H) : LamX.Tabs T H' := fun q hq => by
  obtain ⟨ps, h1, h2, h3⟩ := t q hq
  have keep : ∀ b o, H b = some o → (∀ zs, o ≠ .lst zs) → H' b = some o := fun b o hb n => e b o (fun z => by
    obtain ⟨a, b', c, h⟩ := W
    rw [z, h] at hb
    exact n _ (Option.some.inj hb).symm) hb
  refine ⟨ps, keep _ _ h1 fun _ z => (nomatch z), h2, fun pos cv hc => ?_⟩
  obtain ⟨c, e1, e2⟩ := h3 pos cv hc
  exact ⟨c, e1, keep _ _ e2 fun zs z => by
    unfold LamX.CodeO at z
    cases z⟩
/-! ### dealings as data of any depth -/
def dealP (l : List Pr) : PyData := .tuple (l.map stepP)
theorem dealPs_lay : ∀ {ls : List (List Pr)}, (∀ l ∈ ls, okD l) → PyData.canLayAll0 (ls.map dealP) = true
  | [], _ => by simp [PyData.canLayAll0]
  | l :: ls, h => by
    have h1 := stepPs_lay fun p hp => ((h l (List.mem_cons_self ..)).1 p hp).1
    have h2 := dealPs_lay fun q hq => h q (List.mem_cons_of_mem _ hq)
    simp [PyData.canLayAll0, PyData.canLay0, dealP, h1, h2]
theorem dealPs_depth : ∀ ls : List (List Pr), PyData.depthAll (ls.map dealP) ≤ 2
  | [] => by simp [PyData.depthAll]
  | l :: ls => by
    have h1 := dealPs_depth ls
    have h2 := stepPs_depth l
    simp only [List.map_cons, PyData.depthAll, dealP, PyData.depth] at h1 ⊢
    omega
theorem TDs.dealsDp {K : PySem.W.Frag} {st : Addr} {H : Hp} : ∀ {ls : List (List Pr)} {vs : List V}, TDs st H vs (ls.map dlD) → DpAll K H vs (ls.map dealP)
  | [], _, h => by
    cases h
    exact .nil
  | l :: ls, _, h => by
    cases h with
    | cons h t =>
      refine .cons ?_ t.dealsDp
      cases h with
      | tup n h t => exact .tup (SqT.of h) t.stepsDp
def keptP (ls : List (List Pr)) (ns : List Int) : PyData := .list [.list (ls.map dealP), .list (ns.map PyData.int)]
theorem kept_lay {ls : List (List Pr)} {ns : List Int} (h : ∀ l ∈ ls, okD l) : (keptP ls ns).canLay0 = true := by
  simp [keptP, PyData.canLay0, PyData.canLayAll0, dealPs_lay h, lay_ints]
theorem kept_shaped {ls : List (List Pr)} {ns : List Int} (h : ∀ l ∈ ls, okD l) : SeqAt.shaped (keptP ls ns) = true := by
  show ((keptP ls ns).canLay0 && decide ((keptP ls ns).depth ≤ 64)) = true
  rw [Bool.and_eq_true]
  refine ⟨kept_lay h, decide_eq_true ?_⟩
  have h1 := dealPs_depth ls
  have h2 := depth_ints ns
  simp only [keptP, PyData.depth, PyData.depthAll]
  omega
theorem steps_inj : ∀ {l m : List Pr}, l.map stepD = m.map stepD → l = m
  | [], [], _ => rfl
  | [], _ :: _, h => by cases h
  | _ :: _, [], h => by cases h
  | p :: l, q :: m, h => by
    have h1 : stepD p = stepD q := (List.cons.inj h).1
    have h2 := steps_inj (List.cons.inj h).2
    unfold stepD at h1
    have h3 := D.tup.inj h1
    have h4 : p.1 = q.1 := D.str.inj (List.cons.inj h3).1
    have h5 : p.2 = q.2 := D.int.inj (List.cons.inj (List.cons.inj h3).2).1
    rw [h2, show p = q from Prod.ext h4 h5]
theorem deals_inj : ∀ {l m : List (List Pr)}, l.map dlD = m.map dlD → l = m
  | [], [], _ => rfl
  | [], _ :: _, h => by cases h
  | _ :: _, [], h => by cases h
  | p :: l, q :: m, h => by
    have h1 : dlD p = dlD q := (List.cons.inj h).1
    have h2 := deals_inj (List.cons.inj h).2
    rw [h2, steps_inj (D.tup.inj h1)]
theorem dsD_inj {l m : List (List Pr)} (h : dsD l = dsD m) : l = m := deals_inj (D.lst.inj h)
theorem noDeals {ds : List D} {d : D} (hd : d ∈ ds) (h : isDealing d = false) : areDealings (.lst ds) = false := by
  have e : ds.all isDealing = false := by
    rw [List.all_eq_false]
    exact ⟨d, hd, by rw [h]; exact Bool.false_ne_true⟩
  rw [areDealings_eq, e, Bool.and_false]
/-- a def as its callers need it -/
structure Ok (P : Program) (w : World) (K : PySem.W.Frag) (mg : Str → Option Value) (base : Heap) (CX : CXT) (k : Nat) (x : Str) (ps : List Str) (sp : Sp) : Prop where
  ex : ∃ f fd, FnOk P w K mg base CX k f fd ps sp ∧ mg x = some (.ref f) ∧ PySem.W.keepIn K (.ref f) = true ∧ Binds K fd ps []
end As

namespace As
open PySem PySem.Spec PyProof.Rows L2
/-! ### xs[i] op= e of a list -/
def rGetL (K : PySem.W.Frag) : V → V → Hp → VK → Prop := fun o i H Q => ∃ (p : Addr) (xs : List V) (j : Nat) (v : V), o = .ref p ∧ i = .int (j : Int) ∧ SqL K H p xs ∧ xs[j]? = some v ∧ Q v H
theorem as_getL {X : Cx} : PGet X (rGetL X.K) := by
  intro pins s σ H o i ov iv Q I ro ri h
  obtain ⟨p, xs, j, v, rfl, rfl, hs, hv, q⟩ := h
  cases ro
  obtain ⟨t, rfl⟩ := ri
  obtain ⟨its, r, pl, hz⟩ := I.list hs
  obtain ⟨u, hu, ru⟩ := r.get hv
  have hj := (List.getElem?_eq_some_iff.mp hu).1
  have hl := r.length
  have hn := line63
  exact wpAny_getItem_list pl.isList (by omega) (by omega) (by rw [Int.toNat_natCast]; simpa using hu) ⟨v, H, I, ru, q⟩
/-! ### the walk -/
def stepF (left : List Int) : D → Option (List Int)
  | .int i => if 0 ≤ i ∧ i < left.length ∧ left.getD i.toNat 0 ≠ 0 then some (left.set i.toNat (left.getD i.toNat 0 - 1)) else none
  | _ => none
def flt : List Int → List D → Nat → V
  | left, [], i => if left.any (fun z => decide (0 < z)) = true then .int i else .non
  | left, d :: ds, i => match stepF left d with
    | none => .int i
    | some l => flt l ds (i + 1)
def wfv (ls : List (List Pr)) : D → V
  | .lst ds => flt (turnsOf ls) ds 0
  | _ => .int (-1)
theorem stepF_no {left : List Int} {d : D} (h : numB d left.length = false) : stepF left d = none := by
  cases d with
  | int i =>
    show (if 0 ≤ i ∧ i < left.length ∧ left.getD i.toNat 0 ≠ 0 then _ else none) = none
    rw [if_neg]
    rintro ⟨h0, h1, _⟩
    have h' : (decide (0 ≤ i) && decide (i < (left.length : Int))) = false := h
    rw [decide_eq_true h0, decide_eq_true h1] at h'
    exact absurd h' (by decide)
  | _ => rfl
theorem num_of {d : D} {n : Nat} (h : numB d n = true) : ∃ j : Nat, d = .int (j : Int) ∧ j < n := by
  cases d with
  | int i =>
    have h' : (decide (0 ≤ i) && decide (i < (n : Int))) = true := h
    rw [Bool.and_eq_true, decide_eq_true_eq, decide_eq_true_eq] at h'
    exact ⟨i.toNat, by rw [Int.toNat_of_nonneg h'.1], by omega⟩
  | _ => cases h
theorem stepF_at {left : List Int} {j : Nat} (h : j < left.length) : stepF left (.int (j : Int)) = if left[j] = 0 then none else some (left.set j (left[j] - 1)) := by
  have e : left.getD ((j : Int)).toNat 0 = left[j] := by
    rw [Int.toNat_natCast, List.getD_eq_getElem?_getD, List.getElem?_eq_getElem h]
    rfl
  show (if 0 ≤ (j : Int) ∧ (j : Int) < left.length ∧ left.getD ((j : Int)).toNat 0 ≠ 0 then some (left.set ((j : Int)).toNat (left.getD ((j : Int)).toNat 0 - 1)) else none) = _
  rw [e, Int.toNat_natCast]
  by_cases z : left[j] = 0
  · rw [if_neg (fun c => c.2.2 z), if_pos z]
  · rw [if_pos ⟨by omega, by omega, z⟩, if_neg z]
def Nng (left : List Int) : Prop := ∀ z ∈ left, 0 ≤ z
theorem Nng.step {left : List Int} {j : Nat} (h : Nng left) (hj : j < left.length) (z : left[j] ≠ 0) : Nng (left.set j (left[j] - 1)) := by
  intro y hy
  have h1 := h left[j] (List.getElem_mem hj)
  rcases List.mem_or_eq_of_mem_set hy with a | a
  · exact h y a
  · rw [a]
    omega
theorem sum_pos : ∀ {l : List Int}, Nng l → (0 ≤ l.sum ∧ (decide (0 < l.sum) = l.any (fun z => decide (0 < z))))
  | [], _ => ⟨by simp, rfl⟩
  | a :: l, h => by
    obtain ⟨h1, h2⟩ := sum_pos (l := l) fun z hz => h z (List.mem_cons_of_mem _ hz)
    have ha := h a (List.mem_cons_self ..)
    rw [List.sum_cons, List.any_cons, ← h2]
    refine ⟨by omega, ?_⟩
    by_cases z : 0 < a
    · rw [decide_eq_true z, Bool.true_or]
      exact decide_eq_true (by omega)
    · rw [decide_eq_false z, Bool.false_or]
      exact decide_eq_decide.mpr (by omega)
theorem max_pos {l : List Int} {m : Int} (hm : m ∈ l) (h : ∀ y, y ∈ l → y ≤ m) : decide (0 < m) = l.any (fun z => decide (0 < z)) := by
  by_cases z : 0 < m
  · rw [decide_eq_true z]
    exact (List.any_eq_true.mpr ⟨m, hm, decide_eq_true z⟩).symm
  · rw [decide_eq_false z]
    symm
    rw [List.any_eq_false]
    intro y hy
    have := h y hy
    rw [decide_eq_true_eq]
    omega
theorem turns_nng (ls : List (List Pr)) : Nng (turnsOf ls) := by
  intro z hz
  obtain ⟨l, _, rfl⟩ := List.mem_map.mp hz
  omega
abbrev sWF : Stmt := topS 21
abbrev nWF : List Str := ["dealings", "thing", "left", "place", "number"]
theorem scWF : FnScope nWF ["dealings", "thing"] (defScope sWF) := ⟨rfl, rfl, rfl, by decide +kernel, rfl, by decide +kernel, by decide +kernel⟩
section
variable {P : Program} {w : World} {K : PySem.W.Frag} {mg : Str → Option Value} {base : Heap} {CA CS : Addr}
def spWF (CS : Addr) : Sp := fun vs H Q E => ∃ (st : Addr) (v u : V) (d e : D), vs = [v, u] ∧ TD st H v d ∧ TD st H u e ∧ (∀ ds, e = .lst ds → ds.length ≤ 10000) ∧ (areDealings d = false → ∀ H', Same H H' → E (.ref CS) none H') ∧
  ∀ ls, d = dsD ls → areDealings d = true → ∀ H', Same H H' → Q (wfv ls e) H'
theorem ok_wf {f f1 f2 f3 : Addr} {fd fd1 fd2 fd3 : FuncData} {k : Nat} (F : Fun K "weaving_fault" "weaving_fault" sWF f fd) (M : Mg mg)
    (G1 : FnOk P w K mg base (L2.CX P w) k f1 fd1 ["thing"] (spCheckS CS)) (g1 : mg "check_dealings" = some (.ref f1)) (k1 : PySem.W.keepIn K (.ref f1) = true) (b1 : Binds K fd1 ["thing"] [])
    (G2 : FnOk P w K mg base CX0 k f2 fd2 ["thing", "many"] spIsNumber) (g2 : mg "is_number" = some (.ref f2)) (k2 : PySem.W.keepIn K (.ref f2) = true) (b2 : Binds K fd2 ["thing", "many"] [])
    (G3 : FnOk P w K mg base CX0 k f3 fd3 ["dealings"] spTurns) (g3 : mg "turns_of" = some (.ref f3)) (k3 : PySem.W.keepIn K (.ref f3) = true) (b3 : Binds K fd3 ["dealings"] []) :
    FnOk P w K mg base (L2.CX P w) (k + 1) f fd ["dealings", "thing"] (spWF CS) := by
  refine F.okX scWF (fun vs H Q E h => ?_) (fun cdv A outer s H vs Q E hr h => ?_)
  · obtain ⟨st, v, u, d, e, rfl, _⟩ := h
    rfl
  · obtain ⟨st, v, u, d, e, rfl, td, te, h2000, q1, q2⟩ := h
    refine ⟨_, pss_cons (ps_expr (pe_call (E := E) G1 hr (by rfl) g1 k1 b1 .nil (passes_call (takes_of rfl rfl rfl rfl) (fun _ _ _ _ h => h)) (pa_cons (pv 0) pa_nil)))
      (PSs.nox (pss_cons (ps_if (pt_not (pt_val (pe_callB call_isi (by rfl) M.isinstance (by decide +kernel) (pa_cons (pv 1) (pa_cons (pe_bltn (v := .ty "list") (by rfl) M.list (by decide +kernel) rfl) pa_nil))))) (pss_one (ps_ret (pe_un un_neg pe_int))) pss_nil)
      (pss_cons (ps_set (i := 2) scWF.nd rfl (.inl rfl) (pe_call G3 hr (by rfl) g3 k3 b3 .nil pass0 (pa_cons (pv 0) pa_nil)))
      (pss_cons (ps_for PassesOwn.never rfl (pi_enum (by rfl) M.enumerate (pa_cons (pv 1) pa_nil)) (pg_tup rfl (pgs_cons (pg_name (i := 3) scWF.nd rfl (.inl rfl)) (pgs_cons (pg_name (i := 4) scWF.nd rfl (.inl rfl)) pgs_nil)))
        (pss_cons (ps_if (PW.pt (pw_or (pt_not (pt_val (pe_call G2 hr (by rfl) g2 k2 b2 .nil pass0 (pa_cons (pv 4) (pa_cons (pe_callB call_len_seq (by rfl) M.len PySem.boot_len (pa_cons (pv 2) pa_nil)) pa_nil))))) (pw_or1 (pt_cmpR op_eq (pe_ix ix_list (pv 2) (pv 4) (fun _ _ => rfl)) pe_int (nomark _))))) (pss_one (ps_ret (pv 3))) pss_nil)
        (pss_one (ps_augS (pv 2) (pv 4) as_getL pe_int ip_sub set_list))))
      (pss_cons (ps_if (pt_cmpR op_gt (pe_callB (cr_sum rfl) (by rfl) M.sum (by decide +kernel) (pa_cons (pv 2) pa_nil)) pe_int (nomark _)) (pss_one (ps_ret (pe_callB call_len_seq (by rfl) M.len PySem.boot_len (pa_cons (pv 1) pa_nil)))) pss_nil)
      (pss_one (ps_ret pe_non))))))), ?_⟩
    refine ⟨v, rfl, st, v, d, rfl, td, fun hd H1 e1 => ?_, q1⟩
    obtain ⟨ls, rfl, okl, n1, n100⟩ := dealings_of hd
    have qY := q2 ls rfl hd
    refine ⟨u, rfl, u, .ty "list", _, _, _, rfl, .ty _, (te.mono (.of e1)).ty, kit_ty (kit_lst e), _, rfl, ?_⟩
    cases te with
    | @lst b ys ds nb hb tb =>
      have hlb := tb.length
      have h2 := h2000 ds rfl
      refine iteF ⟨v, rfl, st, v, ls, rfl, td.mono (.of e1), by omega, fun tp H3 ntp e3 ht => ?_⟩
      have e13 := Same.trans e1 e3
      have ntpH : H tp = none := Same.free e1 ntp
      have qV : ∀ H', Same H H' → Q (flt (turnsOf ls) ds 0) H' := qY
      refine ⟨.ref b, rfl, b, ys, rfl, SqL.of (e13 _ _ hb), for_it (walk_enum (xs := ys)) (fun i σ H' => ∃ y3 y4 left, σ = [some v, some (.ref b), some (.ref tp), y3, y4] ∧ Same H H' ∧ H' tp = some (.lst (left.map V.int)) ∧ left.length = ls.length ∧ Nng left ∧ flt (turnsOf ls) ds 0 = flt left (ds.drop i) i)
        ⟨none, none, turnsOf ls, rfl, e13, ht, by unfold turnsOf; rw [List.length_map], turns_nng ls, by rw [List.drop_zero]⟩ (fun i σ H' hi hP => ?_) (fun i x σ H4 H5 hi hP y => ?_) (fun σ H4 hP => ?_)⟩
      · obtain ⟨_, _, _, _, e, _⟩ := hP
        exact SqL.of (e _ _ hb)
      · obtain ⟨y3, y4, left, rfl, e4, ht4, hll, nn, hfl⟩ := hP
        obtain ⟨T, x1, x2, rfl, nT, rfl, ex1, hx2⟩ := y
        have ex1' : x1 = .int (i : Nat) := (Option.some.inj ex1).symm
        subst ex1'
        obtain ⟨di, hdi, tdi⟩ := tb.get hx2
        have hid : i < ds.length := by omega
        have edr : ds.drop i = di :: ds.drop (i + 1) := by
          rw [List.drop_eq_getElem_cons hid]
          rw [List.getElem?_eq_getElem hid] at hdi
          rw [Option.some.inj hdi]
        have e5 : Same H (upd H4 T (.tup [.int (i : Nat), x2])) := Same.new e4 nT
        have ht5 : (upd H4 T (.tup [.int (i : Nat), x2])) tp = some (.lst (left.map V.int)) := same_new nT _ _ ht4
        refine ⟨T, [.int (i : Nat), x2], rfl, SqT.of upd_same, rfl, .int (i : Nat), [x2], rfl, x2, [], rfl, rfl, x2, rfl, .ref tp, rfl, tp, _, rfl, .inl (SqL.of ht5), st, x2, di, _, rfl, tdi.mono (.of e5), _, rfl, ?_⟩
        rw [List.length_map]
        cases hn : numB di left.length with
        | false =>
          have e := stepF_no hn
          refine iteT (iteT ⟨.int (i : Nat), rfl, ?_⟩)
          have r := qV _ e5
          rw [hfl, edr] at r
          unfold flt at r
          rw [e] at r
          exact r
        | true =>
          obtain ⟨j, rfl, hj⟩ := num_of hn
          cases tdi
          have hat : (left.map V.int)[j]? = some (.int left[j]) := by rw [List.getElem?_map, List.getElem?_eq_getElem hj]; rfl
          refine iteF ⟨.ref tp, rfl, .int j, rfl, tp, _, j, .int left[j], rfl, rfl, SqL.of ht5, atI_nat hat, rfl, _, rfl, ?_⟩
          by_cases z : left[j] = 0
          · rw [z, show decide (V.int 0 = V.int 0) = true from decide_eq_true rfl]
            refine iteT ⟨.int (i : Nat), rfl, ?_⟩
            have r := qV _ e5
            rw [hfl, edr] at r
            unfold flt at r
            rw [stepF_at hj, if_pos z] at r
            exact r
          · rw [show decide (V.int left[j] = V.int 0) = false from decide_eq_false fun c => z (V.int.inj c)]
            refine iteF ⟨.ref tp, rfl, .int j, rfl, tp, _, j, .int left[j], rfl, rfl, SqL.of ht5, hat, left[j], 1, rfl, rfl, tp, _, j, j, rfl, rfl, ht5, ?_, ?_⟩
            · unfold ixN
              rw [if_pos (by omega), if_pos (by rw [List.length_map]; omega), Int.toNat_natCast]
            · refine ⟨_, _, left.set j (left[j] - 1), rfl, Same.mut e5 ntpH, ?_, by rw [List.length_set]; exact hll, nn.step hj z, ?_⟩
              · rw [upd_same, List.map_set]
              · rw [hfl, edr]
                show (match stepF left (.int (j : Int)) with | none => V.int i | some l => flt l (ds.drop (i + 1)) (i + 1)) = _
                rw [stepF_at hj, if_neg z]
      · obtain ⟨y3, y4, left, rfl, e4, ht4, hll, nn, hfl⟩ := hP
        rw [hlb, List.drop_length] at hfl
        have r := qV _ e4
        rw [hfl] at r
        unfold flt at r
        refine ⟨.ref tp, rfl, tp, left, rfl, SqL.of ht4, _, 0, rfl, rfl, _, rfl, ?_⟩
        rw [(sum_pos nn).2]
        cases ha : left.any (fun z => decide (0 < z)) with
        | true =>
          rw [ha, if_pos rfl] at r
          refine iteT ⟨.ref b, rfl, b, ys, rfl, .inl (SqL.of (e4 _ _ hb)), ?_⟩
          rw [hlb]
          exact r
        | false =>
          rw [ha, if_neg Bool.false_ne_true] at r
          exact iteF r
    | _ => exact iteT ⟨1, rfl, qY _ e1⟩
end
end As

namespace As
/-! ### products, ways to choose, rows of turns: Nat alone -/
def fct : Nat → Nat
  | 0 => 1
  | n + 1 => (n + 1) * fct n
theorem fct_pos : ∀ n, 0 < fct n
  | 0 => Nat.one_pos
  | n + 1 => Nat.mul_pos (Nat.succ_pos n) (fct_pos n)
/-- ways to choose k of s + k places: by the last place -/
def tri : Nat → Nat → Nat
  | _, 0 => 1
  | 0, _ + 1 => 1
  | s + 1, k + 1 => tri s (k + 1) + tri (s + 1) k
theorem tri_zero (s : Nat) : tri s 0 = 1 := by
  cases s <;> simp [tri]
theorem tri_none (k : Nat) : tri 0 k = 1 := by
  cases k <;> simp [tri]
theorem tri_more (s k : Nat) : tri (s + 1) (k + 1) = tri s (k + 1) + tri (s + 1) k := by simp [tri]
theorem tri_fct : ∀ n s k, s + k = n → tri s k * (fct s * fct k) = fct (s + k) := by
  intro n
  induction n with
  | zero =>
    intro s k h
    obtain ⟨rfl, rfl⟩ : s = 0 ∧ k = 0 := by omega
    rw [tri_zero]
    rfl
  | succ n ih =>
    intro s k h
    cases s with
    | zero =>
      rw [tri_none, Nat.zero_add]
      show 1 * (1 * fct k) = fct k
      omega
    | succ s =>
      cases k with
      | zero =>
        rw [tri_zero]
        show 1 * (fct (s + 1) * 1) = fct (s + 1)
        omega
      | succ k =>
        have h1 := ih s (k + 1) (by omega)
        have h2 := ih (s + 1) k (by omega)
        rw [tri_more]
        have e : s + 1 + (k + 1) = (s + (k + 1)) + 1 := by omega
        have e2 : s + 1 + k = s + (k + 1) := by omega
        rw [e2] at h2
        rw [e, Nat.add_mul]
        have a1 : tri s (k + 1) * (fct (s + 1) * fct (k + 1)) = (s + 1) * fct (s + (k + 1)) := by
          rw [← h1]
          show tri s (k + 1) * ((s + 1) * fct s * fct (k + 1)) = _
          ac_rfl
        have a2 : tri (s + 1) k * (fct (s + 1) * fct (k + 1)) = (k + 1) * fct (s + (k + 1)) := by
          rw [← h2]
          show tri (s + 1) k * (fct (s + 1) * ((k + 1) * fct k)) = _
          ac_rfl
        rw [a1, a2, ← Nat.add_mul]
        show (s + 1 + (k + 1)) * fct (s + (k + 1)) = (s + (k + 1) + 1) * fct (s + (k + 1))
        rw [e]
/-- one place more: exact -/
theorem tri_next (s k : Nat) : tri s k * (s + k + 1) = tri s (k + 1) * (k + 1) := by
  have h1 := tri_fct _ s k rfl
  have h2 := tri_fct _ s (k + 1) rfl
  have hp : 0 < fct s * fct k := Nat.mul_pos (fct_pos s) (fct_pos k)
  refine Nat.eq_of_mul_eq_mul_right hp ?_
  have e : tri s k * (s + k + 1) * (fct s * fct k) = (s + k + 1) * fct (s + k) := by
    rw [← h1]
    ac_rfl
  have e2 : tri s (k + 1) * (k + 1) * (fct s * fct k) = fct (s + (k + 1)) := by
    rw [← h2]
    show _ = tri s (k + 1) * (fct s * ((k + 1) * fct k))
    ac_rfl
  rw [e, e2]
  rfl
theorem tri_div (t s k : Nat) : t * tri s k * (s + k + 1) / (k + 1) = t * tri s (k + 1) := by
  rw [Nat.mul_assoc, tri_next, ← Nat.mul_assoc]
  exact Nat.mul_div_cancel _ (Nat.succ_pos k)
/-- the rows of these turns, s places ahead -/
def rows : Nat → List Nat → Nat
  | _, [] => 1
  | s, t :: ts => tri s t * rows (s + t) ts
def prods : List Nat → Nat
  | [] => 1
  | t :: ts => fct t * prods ts
theorem prods_pos : ∀ ts, 0 < prods ts
  | [] => Nat.one_pos
  | t :: ts => Nat.mul_pos (fct_pos t) (prods_pos ts)
theorem rows_fct : ∀ (ts : List Nat) (s : Nat), rows s ts * (fct s * prods ts) = fct (s + ts.sum)
  | [], s => by
    show 1 * (fct s * 1) = fct (s + 0)
    rw [Nat.add_zero]
    omega
  | t :: ts, s => by
    have ih := rows_fct ts (s + t)
    have h := tri_fct _ s t rfl
    rw [List.sum_cons, ← Nat.add_assoc, ← ih, ← h]
    show tri s t * rows (s + t) ts * (fct s * (fct t * prods ts)) = _
    ac_rfl
/-- all turns together decide -/
theorem rows_of {ts : List Nat} {m : Nat} (h : m * prods ts = fct ts.sum) : m = rows 0 ts := by
  have h0 := rows_fct ts 0
  rw [Nat.zero_add] at h0
  refine Nat.eq_of_mul_eq_mul_right (prods_pos ts) (h.trans ?_)
  rw [← h0]
  show _ * (1 * prods ts) = _
  rw [Nat.one_mul]
theorem prods_perm {a b : List Nat} (h : a.Perm b) : prods a = prods b := by
  induction h with
  | nil => rfl
  | cons x _ ih => show fct x * _ = fct x * _; rw [ih]
  | swap x y l => show fct y * (fct x * prods l) = fct x * (fct y * prods l); ac_rfl
  | trans _ _ h1 h2 => exact h1.trans h2
theorem sum_perm {a b : List Nat} (h : a.Perm b) : a.sum = b.sum := by
  induction h with
  | nil => rfl
  | cons x _ ih => rw [List.sum_cons, List.sum_cons, ih]
  | swap x y l => simp only [List.sum_cons]; omega
  | trans _ _ h1 h2 => exact h1.trans h2
theorem rows_perm {a b : List Nat} (h : a.Perm b) : rows 0 a = rows 0 b := by
  refine rows_of ?_
  have h0 := rows_fct a 0
  rw [Nat.zero_add] at h0
  rw [← prods_perm h, ← sum_perm h, ← h0]
  show _ = _ * (1 * prods a)
  rw [Nat.one_mul]
/-- the product of all, divided by each one's, one behind another -/
theorem divs_of : ∀ (ts : List Nat) (m : Nat), ts.foldl (fun x t => x / fct t) (m * prods ts) = m
  | [], m => Nat.mul_one m
  | t :: ts, m => by
    show ts.foldl _ (m * (fct t * prods ts) / fct t) = m
    have e : m * (fct t * prods ts) / fct t = m * prods ts := by
      rw [Nat.mul_left_comm]
      exact Nat.mul_div_cancel_left _ (fct_pos t)
    rw [e]
    exact divs_of ts m
theorem divs_rows (ts : List Nat) : ts.foldl (fun x t => x / fct t) (fct ts.sum) = rows 0 ts := by
  have h0 := rows_fct ts 0
  rw [Nat.zero_add] at h0
  have e : fct ts.sum = rows 0 ts * prods ts := by
    rw [← h0]
    show _ * (1 * prods ts) = _
    rw [Nat.one_mul]
  rw [e]
  exact divs_of ts _
/-! ### one turn taken -/
def dec (ts : List Nat) (k : Nat) : List Nat := ts.set k (ts.getD k 0 - 1)
theorem rows_full (ts : List Nat) : rows 0 ts * prods ts = fct ts.sum := by
  have h := rows_fct ts 0
  rw [Nat.zero_add] at h
  rw [← h]
  show _ = _ * (1 * prods ts)
  rw [Nat.one_mul]
theorem dec_sum : ∀ (ts : List Nat) (k : Nat), 0 < ts.getD k 0 → (dec ts k).sum + 1 = ts.sum
  | [], _, h => absurd h (Nat.lt_irrefl 0)
  | t :: ts, 0, h => by
    have h' : 0 < t := h
    show (t - 1 + ts.sum) + 1 = t + ts.sum
    omega
  | t :: ts, k + 1, h => by
    have ih := dec_sum ts k h
    show (t + (dec ts k).sum) + 1 = t + ts.sum
    omega
theorem dec_prods : ∀ (ts : List Nat) (k : Nat), 0 < ts.getD k 0 → prods (dec ts k) * ts.getD k 0 = prods ts
  | [], _, h => absurd h (Nat.lt_irrefl 0)
  | t :: ts, 0, h => by
    obtain ⟨u, rfl⟩ : ∃ u, t = u + 1 := ⟨t - 1, by have h' : 0 < t := h; omega⟩
    show fct u * prods ts * (u + 1) = (u + 1) * fct u * prods ts
    ac_rfl
  | t :: ts, k + 1, h => by
    have ih := dec_prods ts k h
    show fct t * prods (dec ts k) * ts.getD k 0 = fct t * prods ts
    rw [Nat.mul_assoc, ih]
/-- of all rows, those that begin with one are as many as its part of the places -/
theorem rows_share {ts : List Nat} {k : Nat} (h : 0 < ts.getD k 0) : rows 0 ts * ts.getD k 0 = rows 0 (dec ts k) * ts.sum := by
  have h1 := rows_full ts
  have h2 := rows_full (dec ts k)
  have h3 := dec_sum ts k h
  have h4 := dec_prods ts k h
  refine Nat.eq_of_mul_eq_mul_right (prods_pos (dec ts k)) ?_
  have e1 : rows 0 ts * ts.getD k 0 * prods (dec ts k) = fct ts.sum := by
    rw [← h1, ← h4]
    ac_rfl
  have e2 : rows 0 (dec ts k) * ts.sum * prods (dec ts k) = ts.sum * fct (dec ts k).sum := by
    rw [← h2]
    ac_rfl
  rw [e1, e2, ← h3]
  rfl
theorem rows_shareD {ts : List Nat} {k : Nat} (h : 0 < ts.getD k 0) : rows 0 ts * ts.getD k 0 / ts.sum = rows 0 (dec ts k) := by
  rw [rows_share h]
  refine Nat.mul_div_cancel _ ?_
  have := dec_sum ts k h
  omega
/-- the rows that begin with one -/
def begin_ (ts : List Nat) (k : Nat) : Nat := if 0 < ts.getD k 0 then rows 0 (dec ts k) else 0
theorem begin_share (ts : List Nat) (k : Nat) (hs : 0 < ts.sum) : rows 0 ts * ts.getD k 0 / ts.sum = begin_ ts k := by
  unfold begin_
  by_cases h : 0 < ts.getD k 0
  · rw [if_pos h]
    exact rows_shareD h
  · rw [if_neg h, show ts.getD k 0 = 0 by omega, Nat.mul_zero, Nat.zero_div]
theorem begin_mul (ts : List Nat) (k : Nat) : begin_ ts k * ts.sum = rows 0 ts * ts.getD k 0 := by
  unfold begin_
  by_cases h : 0 < ts.getD k 0
  · rw [if_pos h]
    exact (rows_share h).symm
  · rw [if_neg h, show ts.getD k 0 = 0 by omega, Nat.mul_zero, Nat.zero_mul]
/-- those that begin with one of the first j -/
theorem begin_sum (ts : List Nat) : ∀ j, ((List.range j).map (begin_ ts)).sum * ts.sum = rows 0 ts * (ts.take j).sum
  | 0 => by simp
  | j + 1 => by
    have ih := begin_sum ts j
    rw [List.range_succ, List.map_append, List.sum_append, Nat.add_mul, ih]
    have e : (ts.take (j + 1)).sum = (ts.take j).sum + ts.getD j 0 := by
      rw [List.take_add_one, List.sum_append, List.getD_eq_getElem?_getD]
      cases ts[j]? with
      | none => simp
      | some x => simp
    rw [e, Nat.mul_add]
    congr 1
    simp only [List.map_cons, List.map_nil, List.sum_cons, List.sum_nil, Nat.add_zero]
    exact begin_mul ts j
theorem begin_all (ts : List Nat) (hs : 0 < ts.sum) : ((List.range ts.length).map (begin_ ts)).sum = rows 0 ts := by
  have h := begin_sum ts ts.length
  rw [List.take_length] at h
  exact Nat.eq_of_mul_eq_mul_right hs h
theorem begin_ahead (ts : List Nat) (j : Nat) (hs : 0 < ts.sum) : rows 0 ts * (ts.take j).sum / ts.sum = ((List.range j).map (begin_ ts)).sum := by
  rw [← begin_sum ts j]
  exact Nat.mul_div_cancel _ hs
end As

namespace As
open PySem PySem.Spec PyProof.Rows L2
theorem rows_snoc : ∀ (ts : List Nat) (s t : Nat), rows s (ts ++ [t]) = rows s ts * tri (s + ts.sum) t
  | [], s, t => by
    show tri s t * 1 = 1 * tri (s + 0) t
    rw [Nat.mul_one, Nat.one_mul, Nat.add_zero]
  | u :: ts, s, t => by
    show tri s u * rows (s + u) (ts ++ [t]) = tri s u * rows (s + u) ts * tri (s + (u :: ts).sum) t
    rw [rows_snoc ts (s + u) t, List.sum_cons, Nat.mul_assoc, Nat.add_assoc]
def tnOf (ls : List (List Pr)) : List Nat := ls.map fun l => l.length + 1
theorem turns_tn (ls : List (List Pr)) : turnsOf ls = (tnOf ls).map fun (t : Nat) => (t : Int) := by
  unfold turnsOf tnOf
  rw [List.map_map]
  rfl
theorem sum_le : ∀ {ts : List Nat} {m : Nat}, (∀ t ∈ ts, t ≤ m) → ts.sum ≤ m * ts.length
  | [], _, _ => Nat.zero_le _
  | t :: ts, m, h => by
    have ih := sum_le (ts := ts) (m := m) fun u hu => h u (List.mem_cons_of_mem _ hu)
    have h1 := h t (List.mem_cons_self ..)
    rw [List.sum_cons, List.length_cons, Nat.mul_add, Nat.mul_one]
    omega
abbrev sHow : Stmt := topS 23
abbrev nHow : List Str := ["dealings", "total", "size", "times", "turn"]
theorem scHow : FnScope nHow ["dealings"] (defScope sHow) := ⟨rfl, rfl, rfl, by decide +kernel, rfl, by decide +kernel, by decide +kernel⟩
section
variable {P : Program} {w : World} {K : PySem.W.Frag} {mg : Str → Option Value} {base : Heap} {CA CS : Addr}
def spHow (CS : Addr) : Sp := fun vs H Q E => ∃ (st : Addr) (v : V) (d : D), vs = [v] ∧ TD st H v d ∧ (areDealings d = false → ∀ H', Same H H' → E (.ref CS) none H') ∧
  ∀ ls, d = dsD ls → areDealings d = true → ∀ H', Same H H' → Q (.int (rows 0 (tnOf ls) : Nat)) H'
theorem ok_how {f f1 f3 : Addr} {fd fd1 fd3 : FuncData} {k : Nat} (F : Fun K "how_many" "how_many" sHow f fd) (M : Mg mg)
    (G1 : FnOk P w K mg base (L2.CX P w) k f1 fd1 ["thing"] (spCheckS CS)) (g1 : mg "check_dealings" = some (.ref f1)) (k1 : PySem.W.keepIn K (.ref f1) = true) (b1 : Binds K fd1 ["thing"] [])
    (G3 : FnOk P w K mg base CX0 k f3 fd3 ["dealings"] spTurns) (g3 : mg "turns_of" = some (.ref f3)) (k3 : PySem.W.keepIn K (.ref f3) = true) (b3 : Binds K fd3 ["dealings"] []) :
    FnOk P w K mg base (L2.CX P w) (k + 1) f fd ["dealings"] (spHow CS) := by
  refine F.okX scHow (fun vs H Q E h => ?_) (fun cdv A outer s H vs Q E hr h => ?_)
  · obtain ⟨st, v, d, rfl, _⟩ := h
    rfl
  · obtain ⟨st, v, d, rfl, td, q1, q2⟩ := h
    refine ⟨_, pss_cons (ps_expr (pe_call (E := E) G1 hr (by rfl) g1 k1 b1 .nil (passes_call (takes_of rfl rfl rfl rfl) (fun _ _ _ _ h => h)) (pa_cons (pv 0) pa_nil)))
      (PSs.nox (pss_cons (ps_set (i := 1) scHow.nd rfl (.inl rfl) pe_int)
      (pss_cons (ps_set (i := 2) scHow.nd rfl (.inl rfl) pe_int)
      (pss_cons (ps_for PassesOwn.never rfl (pi_list (pe_call G3 hr (by rfl) g3 k3 b3 .nil pass0 (pa_cons (pv 0) pa_nil))) (pg_name (i := 3) scHow.nd rfl (.inl rfl))
        (pss_one (ps_for PassesOwn.never rfl (pi_range2 (by rfl) M.range (pa_cons pe_int (pa_cons (pe_add (pv 3) pe_int) pa_nil))) (pg_name (i := 4) scHow.nd rfl (.inl rfl))
          (pss_cons (ps_aug (i := 2) scHow.nd rfl (.inl rfl) pe_int ip_add)
          (pss_one (ps_set (i := 1) scHow.nd rfl (.inl rfl) (pe_op op_fdiv (pe_op op_mul (pv 1) (pv 2)) (pv 4))))))))
      (pss_one (ps_ret (pv 1))))))), ?_⟩
    refine ⟨v, rfl, st, v, d, rfl, td, fun hd H1 e1 => ?_, q1⟩
    obtain ⟨ls, rfl, okl, n1, n100⟩ := dealings_of hd
    have qY := q2 ls rfl hd
    have t9 : ∀ t ∈ tnOf ls, t ≤ 9 := fun t ht => by
      obtain ⟨l, hl, rfl⟩ := List.mem_map.mp ht
      have := (okl l hl).2.2.1
      omega
    have htl : (tnOf ls).length = ls.length := by unfold tnOf; rw [List.length_map]
    refine ⟨v, rfl, st, v, ls, rfl, td.mono (.of e1), by omega, fun tp H3 ntp e3 ht => ⟨tp, rfl, ⟨_, SqL.of ht⟩, ?_⟩⟩
    have e13 := Same.trans e1 e3
    rw [turns_tn] at ht
    refine for_list (xs := ((tnOf ls).map fun (t : Nat) => (t : Int)).map V.int) (fun i σ H' => ∃ y3 y4, σ = [some v, some (.int (rows 0 ((tnOf ls).take i) : Nat)), some (.int (((tnOf ls).take i).sum : Nat)), y3, y4] ∧ Same H3 H') ⟨none, none, rfl, Same.refl _⟩ (fun i σ H' _ hP => ?_) (fun i x σ H4 hx hP => ?_) (fun σ H4 hP => ?_)
    · obtain ⟨_, _, _, e⟩ := hP
      exact SqL.of (e _ _ ht)
    · obtain ⟨y3, y4, rfl, e4⟩ := hP
      rw [List.getElem?_map, List.getElem?_map] at hx
      cases hti : (tnOf ls)[i]? with
      | none => rw [hti] at hx; cases hx
      | some t =>
        rw [hti] at hx
        have ex : V.int (t : Int) = x := Option.some.inj hx
        subst ex
        have ht9 := t9 t (List.mem_of_getElem? hti)
        have hsum : ((tnOf ls).take i).sum ≤ 900 := by
          have h1 := sum_le (ts := (tnOf ls).take i) (m := 9) fun u hu => t9 u (List.mem_of_mem_take hu)
          have h2 : ((tnOf ls).take i).length ≤ 100 := by rw [List.length_take]; omega
          omega
        have etk : (tnOf ls).take (i + 1) = (tnOf ls).take i ++ [t] := by rw [List.take_add_one, hti]; rfl
        have er : rows 0 ((tnOf ls).take (i + 1)) = rows 0 ((tnOf ls).take i) * tri ((tnOf ls).take i).sum t := by rw [etk, rows_snoc, Nat.zero_add]
        have es : ((tnOf ls).take (i + 1)).sum = ((tnOf ls).take i).sum + t := by rw [etk, List.sum_append]; simp
        obtain ⟨R, hR⟩ : ∃ R, rows 0 ((tnOf ls).take i) = R := ⟨_, rfl⟩
        obtain ⟨S, hS⟩ : ∃ S, ((tnOf ls).take i).sum = S := ⟨_, rfl⟩
        rw [hR, hS] at er
        rw [hS] at es hsum
        rw [hR, hS]
        refine ⟨.int t, rfl, (t : Int), 1, rfl, rfl, 1, (t : Int) + 1, rfl, ⟨by omega, by omega, by omega, by omega⟩, ?_⟩
        rw [show ((t : Int) + 1 - 1).toNat = t by omega]
        refine for_range (lo := 1) (fun j σ H' => ∃ y4, σ = [some v, some (.int (R * tri S j : Nat)), some (.int (S + j : Nat)), some (.int t), y4] ∧ Same H3 H') ⟨y4, by rw [tri_zero, Nat.mul_one, Nat.add_zero]; rfl, e4⟩ (fun j σ H5 hj hP => ?_) (fun σ H5 hP => ?_)
        · obtain ⟨y4', rfl, e5⟩ := hP
          refine ⟨.int (S + j : Nat), rfl, _, 1, rfl, rfl, .int (R * tri S j : Nat), rfl, .int (((S + j : Nat) : Int) + 1), rfl, _, _, rfl, rfl, .inr ⟨by omega, by omega⟩, .int (1 + (j : Int)), rfl, _, _, rfl, rfl, ⟨by omega, by omega⟩, some (.int (1 + (j : Int))), ?_, e5⟩
          have e8 : ((R * tri S j : Nat) : Int) * (((S + j : Nat) : Int) + 1) / (1 + (j : Int)) = ((R * tri S (j + 1) : Nat) : Int) := by
            have e7 := tri_div R S j
            rw [show ((R * tri S j : Nat) : Int) * (((S + j : Nat) : Int) + 1) = ((R * tri S j * (S + j + 1) : Nat) : Int) by push_cast; rfl, show (1 + (j : Int)) = ((j + 1 : Nat) : Int) by omega, ← Int.natCast_ediv, e7]
          show [some v, some (V.int (((R * tri S j : Nat) : Int) * (((S + j : Nat) : Int) + 1) / (1 + (j : Int)))), some (V.int (((S + j : Nat) : Int) + 1)), some (V.int t), some (V.int (1 + (j : Int)))] = _
          rw [e8]
          rfl
        · obtain ⟨y4', rfl, e5⟩ := hP
          exact ⟨some (.int t), y4', by rw [er, es], e5⟩
    · obtain ⟨y3, y4, rfl, e4⟩ := hP
      rw [List.length_map, List.length_map, List.take_length]
      exact ⟨_, rfl, qY _ (Same.trans e13 e4)⟩
end
end As

namespace As
/-! ### a row's number among the rows of the same turns: Nat alone -/
def pre (ts : List Nat) (k : Nat) : Nat := ((List.range k).map (begin_ ts)).sum
theorem pre_next (ts : List Nat) (k : Nat) : pre ts (k + 1) = pre ts k + begin_ ts k := by
  unfold pre
  rw [List.range_succ, List.map_append, List.sum_append]
  simp
theorem pre_mono (ts : List Nat) {j k : Nat} (h : j ≤ k) : pre ts j ≤ pre ts k := by
  induction h with
  | refl => exact Nat.le_refl _
  | step _ ih => exact Nat.le_trans ih (by rw [Nat.succ_eq_add_one, pre_next]; exact Nat.le_add_right _ _)
theorem pre_all (ts : List Nat) (hs : 0 < ts.sum) : pre ts ts.length = rows 0 ts := begin_all ts hs
/-- the numbers in it are just the turns that are left -/
def isW : List Nat → List Nat → Prop
  | ts, [] => ts.sum = 0
  | ts, k :: w => 0 < ts.getD k 0 ∧ isW (dec ts k) w
def rank : List Nat → List Nat → Nat
  | _, [] => 0
  | ts, k :: w => pre ts k + rank (dec ts k) w
theorem getD_lt {ts : List Nat} {k : Nat} (h : 0 < ts.getD k 0) : k < ts.length := by
  apply Nat.lt_of_not_le
  intro hl
  rw [List.getD_eq_getElem?_getD, List.getElem?_eq_none hl] at h
  exact absurd h (Nat.lt_irrefl 0)
theorem prods_zero : ∀ {ts : List Nat}, ts.sum = 0 → prods ts = 1
  | [], _ => rfl
  | t :: ts, h => by
    rw [List.sum_cons] at h
    obtain ⟨rfl, h'⟩ : t = 0 ∧ ts.sum = 0 := by omega
    show 1 * prods ts = 1
    rw [prods_zero h']
theorem rows_zero {ts : List Nat} (h : ts.sum = 0) : rows 0 ts = 1 := by
  refine (rows_of (m := 1) ?_).symm
  rw [prods_zero h, h]
  rfl
theorem rank_lt : ∀ {w ts : List Nat}, isW ts w → rank ts w < rows 0 ts
  | [], ts, h => by
    rw [rows_zero h]
    exact Nat.one_pos
  | k :: w, ts, h => by
    obtain ⟨h1, h2⟩ := h
    have ih := rank_lt h2
    have hb : begin_ ts k = rows 0 (dec ts k) := if_pos h1
    have hk := getD_lt h1
    have hs : 0 < ts.sum := by
      have := dec_sum ts k h1
      omega
    have h3 := pre_mono ts (j := k + 1) (k := ts.length) hk
    rw [pre_all ts hs, pre_next, hb] at h3
    show pre ts k + rank (dec ts k) w < rows 0 ts
    omega
/-- where a number's first turn is -/
theorem first_at {ts : List Nat} {k : Nat} {w : List Nat} (h : isW ts (k :: w)) : pre ts k ≤ rank ts (k :: w) ∧ rank ts (k :: w) < pre ts k + begin_ ts k := by
  obtain ⟨h1, h2⟩ := h
  have ih := rank_lt h2
  have hb : begin_ ts k = rows 0 (dec ts k) := if_pos h1
  refine ⟨Nat.le_add_right _ _, ?_⟩
  show pre ts k + rank (dec ts k) w < _
  omega
theorem first_only {ts : List Nat} {j k m : Nat} (h1 : pre ts j ≤ m) (h2 : m < pre ts (j + 1)) (h3 : pre ts k ≤ m) (h4 : m < pre ts (k + 1)) : j = k := by
  rcases Nat.lt_trichotomy j k with h | h | h
  · have := pre_mono ts (j := j + 1) (k := k) h
    omega
  · exact h
  · have := pre_mono ts (j := k + 1) (k := j) h
    omega
/-- two rows of the same turns that have the same number are the same -/
theorem rank_inj : ∀ {w v ts : List Nat}, isW ts w → isW ts v → rank ts w = rank ts v → w = v
  | [], [], _, _, _, _ => rfl
  | [], k :: v, ts, h1, h2, _ => by
    have h3 := dec_sum ts k h2.1
    have h4 : ts.sum = 0 := h1
    omega
  | k :: w, [], ts, h1, h2, _ => by
    have h3 := dec_sum ts k h1.1
    have h4 : ts.sum = 0 := h2
    omega
  | k :: w, j :: v, ts, h1, h2, e => by
    have a1 := first_at h1
    have a2 := first_at h2
    rw [← pre_next] at a1 a2
    rw [← e] at a2
    have ek := first_only a1.1 a1.2 a2.1 a2.2
    subst ek
    have e' : pre ts k + rank (dec ts k) w = pre ts k + rank (dec ts k) v := e
    rw [rank_inj h1.2 h2.2 (by omega)]
/-- a row that stands ahead as a list has the lesser number -/
theorem rank_less {ts : List Nat} {j k : Nat} {w v : List Nat} (h1 : isW ts (j :: w)) (h2 : isW ts (k :: v)) (h : j < k) : rank ts (j :: w) < rank ts (k :: v) := by
  have a1 := first_at h1
  have a2 := first_at h2
  rw [← pre_next] at a1
  have := pre_mono ts (j := j + 1) (k := k) h
  omega
/-- each number has its row -/
theorem rank_onto : ∀ (n : Nat) {ts : List Nat} {m : Nat}, ts.sum = n → m < rows 0 ts → ∃ w, isW ts w ∧ rank ts w = m
  | 0, ts, m, hs, hm => by
    rw [rows_zero hs] at hm
    exact ⟨[], hs, show 0 = m by omega⟩
  | n + 1, ts, m, hs, hm => by
    have hp : 0 < ts.sum := by omega
    have ex : ∀ k, m < pre ts k → ∃ j, j < k ∧ pre ts j ≤ m ∧ m < pre ts (j + 1) := by
      intro k
      induction k with
      | zero =>
        intro h
        exact absurd h (Nat.not_lt_zero _)
      | succ k ih =>
        intro h
        by_cases h' : m < pre ts k
        · obtain ⟨j, a, b, c⟩ := ih h'
          exact ⟨j, by omega, b, c⟩
        · exact ⟨k, by omega, by omega, h⟩
    obtain ⟨j, _, hj1, hj2⟩ := ex ts.length (by rw [pre_all ts hp]; exact hm)
    rw [pre_next] at hj2
    have hpos : 0 < ts.getD j 0 := by
      apply Nat.pos_of_ne_zero
      intro z
      have : begin_ ts j = 0 := if_neg (by omega)
      omega
    have hb : begin_ ts j = rows 0 (dec ts j) := if_pos hpos
    have hds := dec_sum ts j hpos
    obtain ⟨w, hw, hr⟩ := rank_onto n (ts := dec ts j) (m := m - pre ts j) (by omega) (by omega)
    refine ⟨j :: w, ⟨hpos, hw⟩, ?_⟩
    show pre ts j + rank (dec ts j) w = m
    omega
end As

namespace As
/-! ### rows of turns, floor by floor: Nat alone -/
def inc (l : List Nat) (k : Nat) : List Nat := l.set k (l.getD k 0 + 1)
theorem inc_len (l : List Nat) (k : Nat) : (inc l k).length = l.length := List.length_set
theorem dec_len (l : List Nat) (k : Nat) : (dec l k).length = l.length := List.length_set
theorem getD_set (l : List Nat) (k j v : Nat) (hk : k < l.length) : (l.set k v).getD j 0 = if j = k then v else l.getD j 0 := by
  rw [List.getD_eq_getElem?_getD, List.getD_eq_getElem?_getD, List.getElem?_set]
  by_cases e : k = j
  · subst e
    rw [if_pos rfl, if_pos hk, if_pos rfl]
    rfl
  · rw [if_neg e, if_neg (fun z => e z.symm)]
theorem inc_dec {m : List Nat} {k : Nat} (h : 0 < m.getD k 0) : inc (dec m k) k = m := by
  have hk := getD_lt h
  unfold inc dec
  rw [getD_set m k k _ hk, if_pos rfl, List.set_set, show m.getD k 0 - 1 + 1 = m.getD k 0 by omega, List.getD_eq_getElem?_getD, List.getElem?_eq_getElem hk]
  show m.set k m[k] = m
  exact List.set_getElem_self hk
theorem dec_inc {l : List Nat} {k : Nat} (hk : k < l.length) : dec (inc l k) k = l := by
  unfold inc dec
  rw [getD_set l k k _ hk, if_pos rfl, List.set_set, Nat.add_sub_cancel, List.getD_eq_getElem?_getD, List.getElem?_eq_getElem hk]
  show l.set k l[k] = l
  exact List.set_getElem_self hk
theorem inc_sum {l : List Nat} {k : Nat} (hk : k < l.length) : (inc l k).sum = l.sum + 1 := by
  have h : 0 < (inc l k).getD k 0 := by
    unfold inc
    rw [getD_set l k k _ hk, if_pos rfl]
    omega
  have := dec_sum (inc l k) k h
  rw [dec_inc hk] at this
  omega
/-- the rows of one floor: no turn beyond its bound, so many together -/
def Fl (ts : List Nat) (i : Nat) (l : List Nat) : Prop := l.length = ts.length ∧ (∀ k, l.getD k 0 ≤ ts.getD k 0) ∧ l.sum = i
theorem Fl.inc {ts l : List Nat} {i k : Nat} (h : Fl ts i l) (hk : l.getD k 0 < ts.getD k 0) : Fl ts (i + 1) (inc l k) := by
  obtain ⟨h1, h2, h3⟩ := h
  have hkl : k < l.length := by
    rw [h1]
    exact getD_lt (by omega)
  refine ⟨(inc_len l k).trans h1, fun j => ?_, by rw [inc_sum hkl, h3]⟩
  unfold As.inc
  rw [getD_set l k j _ hkl]
  by_cases e : j = k
  · subst e
    rw [if_pos rfl]
    exact hk
  · rw [if_neg e]
    exact h2 j
theorem Fl.dec {ts m : List Nat} {i k : Nat} (h : Fl ts (i + 1) m) (hk : 0 < m.getD k 0) : Fl ts i (dec m k) := by
  obtain ⟨h1, h2, h3⟩ := h
  have hkl := getD_lt hk
  have hs := dec_sum m k hk
  refine ⟨(dec_len m k).trans h1, fun j => ?_, by omega⟩
  unfold As.dec
  rw [getD_set m k j _ hkl]
  have := h2 j
  by_cases e : j = k
  · subst e
    rw [if_pos rfl]
    omega
  · rw [if_neg e]
    exact this
theorem sum_zero_get : ∀ {l : List Nat}, l.sum = 0 → ∀ k, l.getD k 0 = 0
  | [], _, k => by simp
  | t :: l, h, k => by
    rw [List.sum_cons] at h
    cases k with
    | zero => show t = 0; omega
    | succ k => exact sum_zero_get (l := l) (by omega) k
theorem sum_pos_get : ∀ {l : List Nat}, 0 < l.sum → ∃ k, 0 < l.getD k 0
  | [], h => absurd h (Nat.lt_irrefl 0)
  | t :: l, h => by
    rw [List.sum_cons] at h
    by_cases ht : 0 < t
    · exact ⟨0, ht⟩
    · obtain ⟨k, hk⟩ := sum_pos_get (l := l) (by omega)
      exact ⟨k + 1, hk⟩
theorem Fl.first {ts : List Nat} {l : List Nat} : Fl ts 0 l ↔ l = List.replicate ts.length 0 := by
  constructor
  · rintro ⟨h1, _, h3⟩
    refine List.ext_getElem (by rw [h1, List.length_replicate]) fun j a b => ?_
    have := sum_zero_get h3 j
    rw [List.getD_eq_getElem?_getD, List.getElem?_eq_getElem a] at this
    rw [List.getElem_replicate]
    exact this
  · rintro rfl
    refine ⟨List.length_replicate, fun k => ?_, ?_⟩
    · rw [List.getD_eq_getElem?_getD]
      by_cases hk : k < ts.length
      · rw [List.getElem?_replicate, if_pos hk]
        exact Nat.zero_le _
      · rw [List.getElem?_replicate, if_neg hk]
        exact Nat.zero_le _
    · simp
theorem get_le_eq : ∀ {l ts : List Nat}, l.length = ts.length → (∀ k, l.getD k 0 ≤ ts.getD k 0) → l.sum ≤ ts.sum ∧ (l.sum = ts.sum → l = ts)
  | [], [], _, _ => ⟨Nat.le_refl _, fun _ => rfl⟩
  | [], _ :: _, h, _ => by cases h
  | _ :: _, [], h, _ => by cases h
  | a :: l, b :: ts, h, g => by
    obtain ⟨h1, h2⟩ := get_le_eq (l := l) (ts := ts) (Nat.succ.inj h) fun k => g (k + 1)
    have h0 : a ≤ b := g 0
    rw [List.sum_cons, List.sum_cons]
    refine ⟨by omega, fun e => ?_⟩
    rw [h2 (by omega), show a = b by omega]
theorem Fl.last {ts l : List Nat} : Fl ts ts.sum l ↔ l = ts := by
  constructor
  · rintro ⟨h1, h2, h3⟩
    exact (get_le_eq h1 h2).2 h3
  · rintro rfl
    exact ⟨rfl, fun _ => Nat.le_refl _, rfl⟩
/-! ### what a floor hands on -/
def gv (ts l m : List Nat) (k : Nat) : Nat := if l.getD k 0 < ts.getD k 0 ∧ inc l k = m then rows 0 l else 0
def gs (ts l m : List Nat) (k : Nat) : Nat := ((List.range k).map (gv ts l m)).sum
def gt (ts : List Nat) (ks : List (List Nat)) (m : List Nat) : Nat := (ks.map fun l => gs ts l m ts.length).sum
theorem gs_next (ts l m : List Nat) (k : Nat) : gs ts l m (k + 1) = gs ts l m k + gv ts l m k := by
  unfold gs
  rw [List.range_succ, List.map_append, List.sum_append]
  simp
theorem gt_snoc (ts : List Nat) (ks : List (List Nat)) (l m : List Nat) : gt ts (ks ++ [l]) m = gt ts ks m + gs ts l m ts.length := by
  unfold gt
  rw [List.map_append, List.sum_append]
  simp
theorem sum_swap {α : Type} (f : α → Nat → Nat) (ks : List α) : ∀ n, (ks.map fun l => ((List.range n).map (f l)).sum).sum = ((List.range n).map fun b => (ks.map fun l => f l b).sum).sum
  | 0 => by
    simp
    induction ks with
    | nil => rfl
    | cons a ks ih => simp [ih]
  | n + 1 => by
    have ih := sum_swap f ks n
    rw [List.range_succ, List.map_append, List.sum_append, ← ih]
    have e : ∀ ks : List α, (ks.map fun l => ((List.range n ++ [n]).map (f l)).sum).sum = (ks.map fun l => ((List.range n).map (f l)).sum).sum + (ks.map fun l => f l n).sum := by
      intro ks
      induction ks with
      | nil => rfl
      | cons a ks ih2 =>
        rw [List.map_cons, List.sum_cons, ih2, List.map_cons, List.sum_cons, List.map_cons, List.sum_cons, List.map_append, List.sum_append]
        simp only [List.map_cons, List.map_nil, List.sum_cons, List.sum_nil, Nat.add_zero]
        omega
    rw [e]
    simp
theorem sum_one {α : Type} [DecidableEq α] (f : α → Nat) (a : α) : ∀ {ks : List α}, ks.Nodup → (ks.map fun l => if l = a then f l else 0).sum = if a ∈ ks then f a else 0
  | [], _ => by simp
  | k :: ks, h => by
    rw [List.nodup_cons] at h
    rw [List.map_cons, List.sum_cons, sum_one f a h.2]
    by_cases e : k = a
    · subst e
      rw [if_pos rfl, if_neg h.1, if_pos (List.mem_cons_self ..)]
      rfl
    · rw [if_neg e, Nat.zero_add]
      by_cases e2 : a ∈ ks
      · rw [if_pos e2, if_pos (List.mem_cons_of_mem _ e2)]
      · rw [if_neg e2, if_neg]
        intro z
        rcases List.mem_cons.mp z with z | z
        · exact e z.symm
        · exact e2 z
theorem rows_pos (ts : List Nat) : 0 < rows 0 ts := by
  have h := rows_full ts
  have := fct_pos ts.sum
  apply Nat.pos_of_ne_zero
  intro z
  rw [z, Nat.zero_mul] at h
  omega
theorem zeros_sum {α : Type} : ∀ ks : List α, (ks.map fun _ => (0 : Nat)).sum = 0
  | [] => rfl
  | _ :: ks => by rw [List.map_cons, List.sum_cons, zeros_sum ks]
theorem gt_full {ts : List Nat} {ks : List (List Nat)} {i : Nat} {m : List Nat} (nd : ks.Nodup) (hk : ∀ l, l ∈ ks ↔ Fl ts i l) (hm : Fl ts (i + 1) m) : gt ts ks m = rows 0 m := by
  have hs : 0 < m.sum := by rw [hm.2.2]; omega
  have e : gt ts ks m = ((List.range ts.length).map fun b => (ks.map fun l => gv ts l m b).sum).sum := sum_swap (fun l => gv ts l m) ks ts.length
  rw [e, ← begin_all m hs, ← hm.1]
  congr 1
  refine List.map_congr_left fun b hb => ?_
  have hbl : b < m.length := by rw [List.mem_range] at hb; exact hb
  unfold begin_
  by_cases h0 : 0 < m.getD b 0
  · rw [if_pos h0]
    have hd := hm.dec h0
    have e2 : (ks.map fun l => gv ts l m b) = ks.map fun l => if l = dec m b then rows 0 l else 0 := by
      refine List.map_congr_left fun l hl => ?_
      have hF := (hk l).mp hl
      unfold gv
      by_cases z : l = dec m b
      · subst z
        rw [if_pos rfl, if_pos]
        refine ⟨?_, inc_dec h0⟩
        have h2 := hm.2.1 b
        unfold dec
        rw [getD_set m b b _ hbl, if_pos rfl]
        omega
      · rw [if_neg z, if_neg]
        rintro ⟨_, z2⟩
        refine z ?_
        rw [← z2, dec_inc (by rw [hF.1, ← hm.1]; exact hbl)]
    rw [e2, sum_one (fun l => rows 0 l) (dec m b) nd, if_pos ((hk _).mpr hd)]
  · rw [if_neg h0]
    have e2 : (ks.map fun l => gv ts l m b) = ks.map fun _ => 0 := by
      refine List.map_congr_left fun l hl => ?_
      have hF := (hk l).mp hl
      unfold gv
      rw [if_neg]
      rintro ⟨_, z2⟩
      refine h0 ?_
      rw [← z2]
      unfold inc
      rw [getD_set l b b _ (by rw [hF.1, ← hm.1]; exact hbl), if_pos rfl]
      omega
    rw [e2]
    exact zeros_sum ks
theorem gs_zero {ts l m : List Nat} (h : ∀ b, l.getD b 0 < ts.getD b 0 → inc l b ≠ m) : ∀ k, gs ts l m k = 0
  | 0 => rfl
  | k + 1 => by
    rw [gs_next, gs_zero h k]
    unfold gv
    rw [if_neg]
    rintro ⟨a, b⟩
    exact h k a b
theorem gt_none {ts : List Nat} {ks : List (List Nat)} {i : Nat} {m : List Nat} (hk : ∀ l ∈ ks, Fl ts i l) (hm : ¬ Fl ts (i + 1) m) : gt ts ks m = 0 := by
  unfold gt
  have e : (ks.map fun l => gs ts l m ts.length) = ks.map fun _ => 0 := List.map_congr_left fun l hl => gs_zero (fun b hb (z : inc l b = m) => hm (by rw [← z]; exact (hk l hl).inc hb)) _
  rw [e]
  exact zeros_sum ks
/-! ### few rows on a floor -/
def enc : List Nat → Nat
  | [] => 0
  | t :: l => t + 10 * enc l
theorem enc_inj : ∀ {l m : List Nat}, l.length = m.length → (∀ t ∈ l, t < 10) → (∀ t ∈ m, t < 10) → enc l = enc m → l = m
  | [], [], _, _, _, _ => rfl
  | [], _ :: _, h, _, _, _ => by cases h
  | _ :: _, [], h, _, _, _ => by cases h
  | a :: l, b :: m, h, h1, h2, e => by
    have ha := h1 a (List.mem_cons_self ..)
    have hb := h2 b (List.mem_cons_self ..)
    have e' : a + 10 * enc l = b + 10 * enc m := e
    rw [enc_inj (l := l) (m := m) (Nat.succ.inj h) (fun t ht => h1 t (List.mem_cons_of_mem _ ht)) (fun t ht => h2 t (List.mem_cons_of_mem _ ht)) (by omega), show a = b by omega]
theorem enc_lt : ∀ {l : List Nat}, (∀ t ∈ l, t < 10) → enc l < 10 ^ l.length
  | [], _ => Nat.one_pos
  | a :: l, h => by
    have ha := h a (List.mem_cons_self ..)
    have ih := enc_lt (l := l) fun t ht => h t (List.mem_cons_of_mem _ ht)
    show a + 10 * enc l < 10 ^ (l.length + 1)
    rw [Nat.pow_succ]
    omega
theorem nodup_le : ∀ (n : Nat) {ks : List Nat}, ks.Nodup → (∀ x ∈ ks, x < n) → ks.length ≤ n
  | 0, ks, _, h => by
    cases ks with
    | nil => exact Nat.le_refl _
    | cons a ks => exact absurd (h a (List.mem_cons_self ..)) (Nat.not_lt_zero _)
  | n + 1, ks, nd, h => by
    have nd' : (ks.erase n).Nodup := nd.erase n
    have h' : ∀ x ∈ ks.erase n, x < n := fun x hx => by
      have h1 := h x (List.mem_of_mem_erase hx)
      have h2 : x ≠ n := fun e => by
        subst e
        exact (List.Nodup.not_mem_erase nd) hx
      omega
    have ih := nodup_le n nd' h'
    by_cases hn : n ∈ ks
    · rw [List.length_erase_of_mem hn] at ih
      omega
    · rw [List.erase_of_not_mem hn] at ih
      omega
theorem floor_few {ts : List Nat} {ks : List (List Nat)} (nd : ks.Nodup) (ht : ∀ t ∈ ts, t ≤ 9) (h4 : ts.length ≤ 4) (hk : ∀ l ∈ ks, ∃ i, Fl ts i l) : ks.length ≤ 10000 := by
  have sm : ∀ l ∈ ks, ∀ t ∈ l, t < 10 := fun l hl t htl => by
    obtain ⟨i, h1, h2, _⟩ := hk l hl
    obtain ⟨j, hj, rfl⟩ := List.mem_iff_getElem.mp htl
    have h3 := h2 j
    rw [List.getD_eq_getElem?_getD, List.getElem?_eq_getElem hj, List.getD_eq_getElem?_getD, List.getElem?_eq_getElem (by omega)] at h3
    have h5 := ht _ (List.getElem_mem (show j < ts.length by omega))
    have h6 : l[j] ≤ ts[j] := h3
    omega
  have nd2 : (ks.map enc).Nodup := by
    rw [List.Nodup, List.pairwise_map]
    refine List.Pairwise.imp_of_mem (fun {a b} ha hb hne e => ?_) nd
    obtain ⟨_, la, _⟩ := hk a ha
    obtain ⟨_, lb, _⟩ := hk b hb
    exact hne (enc_inj (la.trans lb.symm) (sm a ha) (sm b hb) e)
  have := nodup_le 10000 nd2 fun x hx => by
    obtain ⟨l, hl, rfl⟩ := List.mem_map.mp hx
    obtain ⟨_, l1, _⟩ := hk l hl
    have h1 := enc_lt (sm l hl)
    have h2 : 10 ^ l.length ≤ 10 ^ 4 := Nat.pow_le_pow_right (by decide) (by omega)
    have h3 : (10 : Nat) ^ 4 = 10000 := by decide
    omega
  rw [List.length_map] at this
  exact this
end As

namespace As
/-! ### all rows in their order, floor by floor: Nat alone -/
def kid (r l : List Nat) (k : Nat) : List (List Nat × List Nat) := if 0 < l.getD k 0 then [(r ++ [k], dec l k)] else []
def kidsTo (r l : List Nat) (k : Nat) : List (List Nat × List Nat) := (List.range k).flatMap (kid r l)
theorem kidsTo_next (r l : List Nat) (k : Nat) : kidsTo r l (k + 1) = kidsTo r l k ++ kid r l k := by
  unfold kidsTo
  rw [List.range_succ, List.flatMap_append]
  simp
def Full (ts r l : List Nat) (o : Nat) : Prop := ∀ w, isW l w → isW ts (r ++ w) ∧ rank ts (r ++ w) = o + rank l w
def Seg (ts : List Nat) : Nat → List (List Nat × List Nat) → Nat → Prop
  | o, [], o' => o = o'
  | o, e :: L, o' => Full ts e.1 e.2 o ∧ Seg ts (o + rows 0 e.2) L o'
theorem Seg.append {ts : List Nat} : ∀ {A B : List (List Nat × List Nat)} {o m o' : Nat}, Seg ts o A m → Seg ts m B o' → Seg ts o (A ++ B) o'
  | [], _, _, _, _, h, h2 => by
    have e : _ = _ := h
    subst e
    exact h2
  | _ :: _, _, _, _, _, h, h2 => ⟨h.1, Seg.append h.2 h2⟩
theorem Full.kid {ts r l : List Nat} {o k : Nat} (h : Full ts r l o) (hk : 0 < l.getD k 0) : Full ts (r ++ [k]) (dec l k) (o + pre l k) := by
  intro w hw
  have h1 := h (k :: w) ⟨hk, hw⟩
  rw [List.append_assoc]
  refine ⟨h1.1, h1.2.trans ?_⟩
  show o + (pre l k + rank (dec l k) w) = _
  omega
theorem Seg.kids {ts r l : List Nat} {o : Nat} (h : Full ts r l o) : ∀ k, Seg ts o (kidsTo r l k) (o + pre l k)
  | 0 => rfl
  | k + 1 => by
    rw [kidsTo_next, pre_next, ← Nat.add_assoc]
    refine (Seg.kids h k).append ?_
    unfold kid begin_
    by_cases hk : 0 < l.getD k 0
    · rw [if_pos hk, if_pos hk]
      exact ⟨h.kid hk, rfl⟩
    · rw [if_neg hk, if_neg hk]
      rfl
def nextL (L : List (List Nat × List Nat)) : List (List Nat × List Nat) := L.flatMap fun e => kidsTo e.1 e.2 e.2.length
theorem nextL_snoc (L : List (List Nat × List Nat)) (e : List Nat × List Nat) : nextL (L ++ [e]) = nextL L ++ kidsTo e.1 e.2 e.2.length := by
  unfold nextL
  rw [List.flatMap_append]
  simp
theorem Seg.next {ts : List Nat} : ∀ {L : List (List Nat × List Nat)} {o o' : Nat}, (∀ e ∈ L, 0 < e.2.sum) → Seg ts o L o' → Seg ts o (nextL L) o'
  | [], _, _, _, h => h
  | e :: L, o, o', hs, h => by
    have h1 := Seg.kids h.1 e.2.length
    rw [pre_all e.2 (hs e (List.mem_cons_self ..))] at h1
    exact h1.append (Seg.next (L := L) (fun x hx => hs x (List.mem_cons_of_mem _ hx)) h.2)
theorem Seg.len {ts : List Nat} : ∀ {L : List (List Nat × List Nat)} {o o' : Nat}, Seg ts o L o' → o + L.length ≤ o'
  | [], _, _, h => Nat.le_of_eq h
  | e :: L, o, o', h => by
    have h1 := Seg.len h.2
    have h2 := rows_pos e.2
    rw [List.length_cons]
    omega
theorem Seg.part {ts : List Nat} : ∀ {A B : List (List Nat × List Nat)} {o o' : Nat}, Seg ts o (A ++ B) o' → ∃ m, Seg ts o A m ∧ Seg ts m B o'
  | [], _, o, _, h => ⟨o, rfl, h⟩
  | _ :: A, B, _, _, h => by
    obtain ⟨m, h1, h2⟩ := Seg.part (A := A) (B := B) h.2
    exact ⟨m, ⟨h.1, h1⟩, h2⟩
theorem Seg.full {ts : List Nat} : ∀ {L : List (List Nat × List Nat)} {o o' : Nat}, (∀ e ∈ L, e.2.sum = 0) → Seg ts o L o' → o + L.length = o' ∧ ∀ j e, L[j]? = some e → isW ts e.1 ∧ rank ts e.1 = o + j
  | [], _, _, _, h => ⟨h, fun j e he => by simp at he⟩
  | x :: L, o, o', hs, h => by
    have hx := hs x (List.mem_cons_self ..)
    have h2 := h.2
    rw [rows_zero hx] at h2
    obtain ⟨h3, h4⟩ := Seg.full (L := L) (fun e he => hs e (List.mem_cons_of_mem _ he)) h2
    refine ⟨by rw [List.length_cons]; omega, fun j e he => ?_⟩
    cases j with
    | zero =>
      have e' : x = e := Option.some.inj he
      subst e'
      have h5 := h.1 [] hx
      rw [List.append_nil] at h5
      exact ⟨h5.1, h5.2⟩
    | succ j =>
      have h6 := h4 j e he
      exact ⟨h6.1, by omega⟩
theorem Seg.first (ts : List Nat) : Seg ts 0 [([], ts)] (rows 0 ts) := ⟨fun w hw => ⟨hw, by rw [Nat.zero_add]; rfl⟩, by show 0 + rows 0 ts = rows 0 ts; omega⟩
/-! ### floors stand level -/
def Lev (ts : List Nat) (i : Nat) (L : List (List Nat × List Nat)) : Prop := ∀ e ∈ L, e.2.length = ts.length ∧ e.2.sum + i = ts.sum
theorem Lev.kidsTo {ts r l : List Nat} {i : Nat} (h1 : l.length = ts.length) (h2 : l.sum + i = ts.sum) : ∀ k, Lev ts (i + 1) (kidsTo r l k)
  | 0 => fun e he => by simp [As.kidsTo] at he
  | k + 1 => fun e he => by
    rw [kidsTo_next, List.mem_append] at he
    rcases he with he | he
    · exact Lev.kidsTo h1 h2 k e he
    · unfold kid at he
      by_cases hk : 0 < l.getD k 0
      · rw [if_pos hk, List.mem_singleton] at he
        subst he
        have := dec_sum l k hk
        exact ⟨(dec_len l k).trans h1, by show (dec l k).sum + (i + 1) = _; omega⟩
      · rw [if_neg hk] at he
        cases he
theorem Lev.next {ts : List Nat} {i : Nat} {L : List (List Nat × List Nat)} (h : Lev ts i L) : Lev ts (i + 1) (nextL L) := fun e he => by
  unfold nextL at he
  obtain ⟨x, hx, hex⟩ := List.mem_flatMap.mp he
  obtain ⟨a, b⟩ := h x hx
  exact Lev.kidsTo a b _ e hex
theorem isW_len : ∀ {w ts : List Nat}, isW ts w → w.length = ts.sum
  | [], _, h => h.symm
  | k :: w, ts, h => by
    have h1 := isW_len h.2
    have h2 := dec_sum ts k h.1
    rw [List.length_cons]
    omega
theorem isW_mem : ∀ {w ts : List Nat}, isW ts w → ∀ k ∈ w, k < ts.length
  | [], _, _, _, hk => by cases hk
  | j :: w, ts, h, k, hk => by
    rcases List.mem_cons.mp hk with e | e
    · rw [e]
      exact getD_lt h.1
    · have := isW_mem h.2 k e
      rw [dec_len] at this
      exact this
theorem dec_le {ts : List Nat} {m : Nat} (h : ∀ t ∈ ts, t ≤ m) (k : Nat) : ∀ t ∈ dec ts k, t ≤ m := fun t ht => by
  rcases List.mem_or_eq_of_mem_set ht with h1 | h1
  · exact h t h1
  · rw [h1]
    by_cases hk : k < ts.length
    · have := h _ (List.getElem_mem hk)
      rw [List.getD_eq_getElem?_getD, List.getElem?_eq_getElem hk]
      show ts[k] - 1 ≤ m
      omega
    · rw [List.getD_eq_getElem?_getD, List.getElem?_eq_none (by omega)]
      exact Nat.zero_le _
end As

/-! rules that the layer lacks: t * 1 of a tuple; a display of one pair whose key is a tuple -/
namespace L2
open PySem PySem.Spec PyProof.Rows
theorem as_mul1 (l : Addr) (items : Array Value) (n : Nat) (dd : Option Addr) (sl : Array (Option Value)) (u : Tok) (hne : items.isEmpty = false) :
    Meets (Builtin.«tuple.__mul__» ⟨[.ref l, .int 1 u], []⟩) (fun _ R s => s.heap.get? l = some { cls := .type "tuple", dict := dd, data := .seq items n, slots := sl } ∧ R (.ok (.ret (Value.ref l))) s) :=
  .of_wp fun prog w A R s h => by
    obtain ⟨hpk, g, d, tkk, osk⟩ := s
    obtain ⟨hlk, h⟩ := h
    have f1k := AutoSeq1.idx_int
    wp_walk using wpAny_loadPart' hlk
    repeat (first
      | (refine wpAny_ite_false (decide_eq_false (by decide)) ?_; wp_walk using wpAny_loadPart' hlk)
      | (refine wpAny_ite_true (decide_eq_true (by simp)) ?_; wp_walk using wpAny_loadPart' hlk))
    exact ⟨_, rfl, h⟩
def rRep1 (K : PySem.W.Frag) : R2 := fun x y H Q => ∃ l k xs, x = .ref l ∧ y = .int k ∧ SqT K H l xs ∧ xs ≠ [] ∧ 1 ≤ k ∧ k ≤ 1000 ∧ xs.length ≤ 1000 ∧ (k = 1 → Q (.ref l) H) ∧ (2 ≤ k → ∀ p, H p = none → Q (.ref p) (upd H p (.tup (List.replicate k.toNat xs).flatten)))
section
variable {X : Cx}
theorem op_rep1 : OpR X (binaryOp .Mult) (rRep1 X.K) := by
  intro pinsk s σ H x y v u Q Ik rxk ryk h
  obtain ⟨l, k, xs, rfl, rfl, hT, hne, h1, h2, hzk, qa, qb⟩ := h
  by_cases hk : k = 1
  · subst hk
    cases rxk
    obtain ⟨t, rfl⟩ := ryk
    obtain ⟨itsk, r, ⟨⟨cls, dd, data, sl⟩, ho, hc, n, hd⟩, hsk⟩ := Ik.tuple hT
    simp only at hc hd
    subst hc hd
    have hle : itsk.length = xs.length := r.length.symm
    have hi : itsk.toArray.isEmpty = false := by
      cases itsk with
      | nil => exact absurd (List.eq_nil_of_length_eq_zero hle.symm) hne
      | cons a b => rfl
    refine wpAny_binaryOp_repeat_ref (T := "tuple") (U := "int") (by decide) ⟨_, ho, rfl⟩ (fun s' => typeIs_int s' 1 t) noFill_tuple_mul F.fills_int_mul F.slot_int_rmul repeat_tuple F.slot_int_index.lookup
      (call_meets F.slot_int_rmul (typeIs_int s 1 t) F.entry_int_rmul (F.args_int_rmul_2 _ _) (int_rmul_tuple 1 t l itsk.toArray n dd sl)
        ⟨ho, rfl, ⟨_, ho, rfl⟩, call_meets F.slot_tuple_mul ⟨_, ho, rfl⟩ F.entry_tuple_mul (F.args_tuple_mul_2 _ _) (as_mul1 l itsk.toArray n dd sl t hi) ⟨ho, ?_⟩⟩)
    exact ⟨.ref l, H, Ik, rfl, qa rfl⟩
  · exact op_repT pinsk s σ H _ _ v u Q Ik rxk ryk ⟨l, k, xs, rfl, rfl, hT, hne, by omega, h2, hzk, qb (by omega)⟩
def qDispT (p : Addr) (Q : VK) : List (V × V) → Hp → Prop := fun ps H2 => H2 p = some (.dT []) ∧ ∃ b k y, ps = [(.ref b, y)] ∧ H2 b = some (.tup (k.map kV)) ∧ Q (.ref p) (upd H2 p (.dT [(k, y)]))
def tDispT (tk tv : TE) : TE := fun σ H Q => ∀ p, H p = none → tk σ (upd H p (.dT [])) fun x H1 => tv σ H1 fun y H2 => qDispT p Q [(x, y)] H2
theorem pe_dispT {k v : Expr} {tk tv : TE} {pos : Pos} (hu : X.A.units + 1 < cLine) (hk : PE X k tk) (hv : PE X v tv) : PE X (.Dict [some k] [v] pos) (tDispT tk tv) := by
  refine ⟨fun pinsk s σ H Q Ik q => ?_⟩
  have hn := Ik.hok.fresh (Nat.le_refl s.heap.objs.size)
  have I1k := Ik.laid (a := s.heap.objs.size) (o := .dT []) (h' := s.heap.push { cls := .type "dict", data := .dict #[] }) (t' := s.toks) (fun _ _ q => Heap.get?_push_of_some _ q) (Nat.le_refl _) (dt_empty s.heap Ik.big)
  have hlen := pairTrees_length [some k] [v] X.env pos rfl rfl
  rw [arm_eval_Dict, zip_pairTrees [some k] [v] X.env pos rfl rfl, dictDisplay_pairs _ (by intro z; rw [z] at hlen; cases hlen) (by rw [hlen]; show 1 < 17; decide)]
  refine wpAny_bind (wpAny_standAt (wpAny_bind ?_))
  unfold subDict
  refine wpAny_bind (wpAny_alloc ?_)
  refine wpAny_bind (wpAny_holding ?_)
  rw [if_pos (by rw [hlen]; show 1 ≤ 15; decide)]
  have run := (pps_cons (pos := pos) hk hv pps_nil).run pinsk { s with heap := s.heap.push { cls := .type "dict", data := .dict #[] } } σ _ (qDispT s.heap.objs.size Q) I1k (q _ hn)
  refine wpAny_bind (wpAny_mono run (fun vs s1k h1k => ?_) fun _ _ e => e)
  obtain ⟨ps, H2k, I2k, rel, ep, b, kk, y, rfl, eb, q2⟩ := h1k
  cases rel with
  | @cons _ pr _ tl h t =>
    cases t
    obtain ⟨w1k, w2k⟩ := pr
    obtain ⟨r1k, r2k⟩ := h
    cases (show w1k = Value.ref b from r1k)
    refine wpAny_holding ?_
    rw [List.forIn_cons]
    obtain ⟨z, hd, xs, relx, dd⟩ := dt_of I2k.hok ep
    cases relx
    refine wpAny_bind (wpAny_bind (wpAny_bind (wpAny_dictSet_heap (hsz := Nat.zero_le _) (show X.A.units < cLine by omega) (key_of I2k.hok eb) dd fun h' dd' hs => wpAny_pure ?_)))
    show wpAny _ _ (forIn [] PUnit.unit _) _ _ _
    rw [List.forIn_nil]
    refine wpAny_pure (wpAny_pure (wpAny_pure (wpAny_pure ⟨.ref s.heap.objs.size, _, ?_, rfl, q2⟩)))
    obtain ⟨q, es, ep', hq, h2, h3, h4, _, h5⟩ := dd'
    have nk : KT H2k [] [] := .nil
    refine d_write I2k (by rw [ep]; exact True.intro) hs ⟨q, hq⟩ ⟨by show 1 ≤ sizeLine; decide, hd, _, (nk.put kk eb r2k).keeps fun c ys ec => ?_, q, es, ep', hq, h2, h3, h4, h5⟩
    rw [upd_ne (ne_of ec ep (fun z => nomatch z))]
    exact ec
end
end L2
namespace As
open PySem PySem.Spec PyProof.Rows L2
/-! ### tuples -/
theorem slT_ok {K : PySem.W.Frag} {a : Addr} {H : Hp} {xs : List V} {lo hi : Option Int} {Q : VK} (ha : H a = some (.tup xs)) (q : ∀ c H', H' c = some (.tup (cutV xs lo hi)) → Same H H' → Q (.ref c) H') : rSlA K (.ref a) lo hi H Q := by
  refine ⟨a, xs, rfl, SqT.of ha, fun h => q a H ?_ (Same.refl _), fun _ p np => q p _ upd_same (same_new np)⟩
  unfold cutV
  rw [h.1, h.2, List.drop_zero, Nat.sub_zero, List.take_length]
  exact ha
theorem catT_ok {K : PySem.W.Frag} {a b : Addr} {H : Hp} {xs ys : List V} {Q : VK} (ha : H a = some (.tup xs)) (hb : H b = some (.tup ys)) (hl : xs.length + ys.length ≤ 100000) (q : ∀ c H', H' c = some (.tup (xs ++ ys)) → Same H H' → Q (.ref c) H') : rCatA K (.ref a) (.ref b) H Q := by
  refine ⟨a, b, xs, ys, rfl, rfl, SqT.of ha, SqT.of hb, sl_of hl, fun e => q b H ?_ (Same.refl _), fun _ e => q a H ?_ (Same.refl _), fun _ _ p np => q p _ upd_same (same_new np)⟩
  · rw [e, List.nil_append]; exact hb
  · rw [e, List.append_nil]; exact ha
/-! ### dicts of rows of turns -/
def kk (l : List Nat) : List Key := l.map fun (t : Nat) => (Sum.inl (t : Int) : Key)
def iv (l : List Nat) : List V := l.map fun (t : Nat) => V.int (t : Int)
theorem kk_iv (l : List Nat) : (kk l).map kV = iv l := by
  unfold kk iv
  rw [List.map_map]
  rfl
theorem kk_inj : ∀ {l m : List Nat}, kk l = kk m → l = m
  | [], [], _ => rfl
  | [], _ :: _, h => by cases h
  | _ :: _, [], h => by cases h
  | a :: l, b :: m, h => by
    have h1 := (List.cons.inj h).1
    have h2 := kk_inj (List.cons.inj h).2
    have h3 : (a : Int) = b := Sum.inl.inj h1
    rw [h2, show a = b by omega]
theorem iv_len (l : List Nat) : (iv l).length = l.length := List.length_map _
structure DM (kvs : List (List Key × V)) (ks : List (List Nat)) (F : List Nat → Nat) : Prop where
  keys : kvs.map (·.1) = ks.map kk
  nd : ks.Nodup
  mem : ∀ l, l ∈ ks ↔ F l ≠ 0
  val : ∀ l, valV kvs (kk l) = if F l = 0 then none else some (.int (F l : Nat))
theorem DM.nil : DM [] [] (fun _ => 0) := ⟨rfl, List.nodup_nil, fun l => by simp, fun l => rfl⟩
theorem DM.len {kvs : List (List Key × V)} {ks : List (List Nat)} {F : List Nat → Nat} (h : DM kvs ks F) : kvs.length = ks.length := by
  have := congrArg List.length h.keys
  rwa [List.length_map, List.length_map] at this
theorem DM.to {kvs : List (List Key × V)} {ks : List (List Nat)} {F G : List Nat → Nat} (h : DM kvs ks F) (e : ∀ l, F l = G l) : DM kvs ks G := by
  have : F = G := funext e
  rw [← this]
  exact h
theorem put_keys {kvs : List (List Key × V)} {k : List Key} {v y : V} (h : valV kvs k = some y) : (putK kvs k v).map (·.1) = kvs.map (·.1) := by
  unfold putK
  rw [valV_any, h, if_pos (show (some y).isSome = true from rfl), List.map_map]
  refine List.map_congr_left fun p _ => ?_
  show (if p.1 = k then (p.1, v) else p).1 = p.1
  split <;> rfl
theorem DM.put {kvs : List (List Key × V)} {ks : List (List Nat)} {F : List Nat → Nat} (h : DM kvs ks F) (m : List Nat) (v : Nat) (hv : v ≠ 0) : ∃ ks', DM (putK kvs (kk m) (.int (v : Int))) ks' (fun l => if l = m then v else F l) := by
  have hval : ∀ l, valV (putK kvs (kk m) (.int (v : Int))) (kk l) = if (if l = m then v else F l) = 0 then none else some (.int ((if l = m then v else F l : Nat) : Int)) := fun l => by
    rw [valV_put]
    by_cases e : l = m
    · subst e
      rw [if_pos rfl, if_pos rfl, if_neg hv]
    · rw [if_neg (fun z => e (kk_inj z)), if_neg e]
      exact h.val l
  by_cases hm : F m = 0
  · have hn : valV kvs (kk m) = none := by rw [h.val, if_pos hm]
    refine ⟨ks ++ [m], ?_, ?_, fun l => ?_, hval⟩
    · rw [putK_new _ hn, List.map_append, List.map_append, h.keys]
      rfl
    · rw [List.nodup_append]
      refine ⟨h.nd, by simp, fun a ha b hb e => ?_⟩
      rw [List.mem_singleton.mp hb] at e
      subst e
      exact (h.mem a).mp ha hm
    · rw [List.mem_append, h.mem, List.mem_singleton]
      by_cases e : l = m
      · subst e
        simp [hv]
      · simp [e]
  · have hn : valV kvs (kk m) = some (.int (F m : Nat)) := by rw [h.val, if_neg hm]
    refine ⟨ks, (put_keys hn).trans h.keys, h.nd, fun l => ?_, hval⟩
    rw [h.mem]
    by_cases e : l = m
    · subst e
      simp [hv, hm]
    · simp [e]
theorem inc_iv {l : List Nat} {k : Nat} (hk : k < l.length) : (iv l).take k ++ [V.int ((l[k] : Nat) + 1 : Int)] ++ (iv l).drop (k + 1) = iv (inc l k) := by
  unfold iv inc
  rw [← List.map_take, ← List.map_drop, List.getD_eq_getElem?_getD, List.getElem?_eq_getElem hk]
  show _ = (l.set k (l[k] + 1)).map _
  rw [List.set_eq_take_append_cons_drop, if_pos hk, List.map_append, List.map_cons, List.append_assoc]
  rfl
end As

/-! an own error's __init__ that begins with super().__init__(one thing) -/
namespace As
open PySem PySem.Spec PyProof.Rows L2
theorem zip_look {ps : List Str} {us : List Value} {i : Nat} {x : Str} {u : Value} (nd : ps.Nodup) (h1 : ps[i]? = some x) (h2 : us[i]? = some u) : (ps.zip us).reverse.lookup x = some u := by
  have key : ∀ (l : List (Str × Value)), (l.map (·.1)).Nodup → (x, u) ∈ l → l.lookup x = some u := by
    intro l
    induction l with
    | nil => intro _ h; cases h
    | cons p l ih =>
      obtain ⟨n, v⟩ := p
      intro hn hm
      rw [List.map_cons, List.nodup_cons] at hn
      rcases List.mem_cons.mp hm with e | hm
      · cases e
        simp
      · have ne : x ≠ n := fun z => hn.1 (by rw [← z]; exact List.mem_map.mpr ⟨_, hm, rfl⟩)
        rw [List.lookup_cons, show (x == n) = false by simpa using ne]
        exact ih hn.2 hm
  refine key _ ?_ ?_
  · rw [List.map_reverse]
    refine List.pairwise_reverse.mpr (List.Pairwise.imp (fun h => Ne.symm h) ?_)
    have e : (ps.zip us).map (·.1) = ps.take us.length := by
      clear h1 h2 nd key
      induction ps generalizing us with
      | nil => simp
      | cons p ps ih =>
        cases us with
        | nil => rfl
        | cons v us => simp [ih]
    show List.Nodup ((ps.zip us).map (·.1))
    rw [e]
    exact nd.sublist (List.take_sublist _ _)
  · rw [List.mem_reverse]
    refine List.mem_of_getElem? (i := i) ?_
    rw [List.getElem?_zip_eq_some]
    exact ⟨h1, h2⟩

abbrev fnS (name qual : Str) (params : Arguments) (body : List Stmt) (scope : Scope) (dV kV doc pm : Value) (an : Option Addr) (cdv ct : Value) (cl : Addr) : FuncData :=
  { PySem.W.fnOf name qual params body scope dV kV doc pm an cdv ct with closure := [("__class__", cl)] }
abbrev envS (qual : Str) (scope : Scope) (L f cl : Addr) (cdv : Value) : Env := newEnv scope L mainGlobals [("__class__", cl)] (qual ++ ".<locals>.") (some f) cdv none builtinsNs
def cxS (CX : CXT) (P : Program) (w : World) (K : PySem.W.Frag) (mg : Str → Option Value) (base : Heap) (N : List Str) (A : Around) (outer : List Env) (s : Shared) (H : Hp) (E : XK) (env : Env) : Cx where
  prog := P
  w := w
  K := K
  mg := mg
  base := base
  A := A.deeper env
  N := N
  s_0 := s
  H_0 := H
  env := env
  outer := outer
  stack := env :: outer
  ex := []
  calm := true
  fn := fun _ => false
  pn := []
  xe := fun e s' => wpAny (model P w) (A.deeper env) (leaving env e) (fun _ s'' => CX outer H s E e s'') (fun e' s'' => CX outer H s E e' s'') s'
/-- the names of such an __init__ -/
structure ScS (ps : List Str) (sc : Scope) : Prop where
  kind : sc.kind = .function
  co : sc.isCoroutine = false
  gen : sc.isGenerator = false
  nd : ps.Nodup
  par : ∀ x ∈ ps, sc.names.lookup x = some .local
  nocell : ∀ y ∈ sc.names, y.2 ≠ .cell
  free : ∀ y ∈ sc.names, y.2 = .free → y.1 = "__class__"
theorem look1 {x : Str} {c cl : Addr} (h : ([("__class__", cl)] : List (Str × Addr)).lookup x = some c) : x = "__class__" ∧ c = cl := by
  rw [List.lookup_cons] at h
  cases e : (x == ("__class__" : Str)) with
  | true =>
    rw [e] at h
    cases h
    exact ⟨by simpa using e, rfl⟩
  | false =>
    rw [e] at h
    cases h
section
variable {CX : CXT} {P : Program} {w : World} {K : PySem.W.Frag} {mg : Str → Option Value} {base : Heap} {ps : List Str} {qual : Str} {scope : Scope} {f cl : Addr} {cdv : Value} {A : Around} {outer : List Env} {s : Shared} {H : Hp} {E : XK} {us : List Value} {vs : List V}
theorem inv_super {h0 : Heap} {tk : Nat} {cv : Value} (S : ScS ps scope) (hd : A.handled = none) (e0 : Env0 P w K mg base A outer s H) (hl : vs.length = ps.length) (r : Vals vs us)
    (hcl : base.IsCell cl (some cv)) (hns : h0.Ns s.heap.objs.size (fun x => (ps.zip us).reverse.lookup x)) (hk : ∀ b o, s.heap.get? b = some o → h0.get? b = some o) :
    Inv (cxS CX P w K mg base ps A outer s H E (envS qual scope s.heap.objs.size f cl cdv)) [] (vs.map some) H { s with heap := h0, toks := tk } := by
  have noA : ∀ b : Addr, b ∉ (cxS CX P w K mg base ps A outer s H E (envS qual scope s.heap.objs.size f cl cdv)).ex := fun b z => absurd (show b ∈ ([] : List Addr) from z) (by simp)
  obtain ⟨oc, hoc, hdc⟩ := hcl
  have hcb := e0.bs _ _ hoc
  refine ⟨⟨e0.mod, S.kind, rfl, rfl, Nat.le_refl _, fun y z c h1 h2 => ?_, fun y hy => ?_, fun y c z h => ?_, fun _ => hd, Around.frames_deeper e0.frames, .inr ⟨rfl, rfl⟩, fun b z => absurd z (noA b), e0.bs, e0.bsz, fun b _ _ => noA b, fun b z => absurd z (noA b), e0.funs, e0.frf⟩,
    rfl, e0.bare, Un.kept hk, ⟨_, hns, fun i y v h1 h2 h3 => ?_⟩, fun y c h => ?_, e0.hok.fresh (Nat.le_refl _), fun y c h => ?_, fun p hp => absurd (show p ∈ ([] : List (Addr × Obj)) from hp) (by simp), e0.hok.kept hk, ?_⟩
  · rw [(look1 h1).1, (look1 h2).1]
  · have hy : scope.names.lookup y = some .cell ∨ scope.names.lookup y = some .free := hy
    rcases hy with hy | hy
    · exact absurd rfl (S.nocell _ (PySem.mem_of_lookup hy))
    · have e := S.free _ (PySem.mem_of_lookup hy) rfl
      have e' : y = "__class__" := e
      subst e'
      exact ⟨cl, rfl⟩
  · cases z
  · have ha : vs[i]? = some v := by
      rw [List.getElem?_map] at h2
      cases e : vs[i]? with
      | none => rw [e] at h2; cases h2
      | some a => rw [e] at h2; cases h2; rfl
    obtain ⟨u, hu, rv⟩ := r.get ha
    have h1' : ps[i]? = some y := h1
    exact ⟨u, rv, .inl ⟨S.par y (List.mem_of_getElem? h1'), zip_look S.nd h1' hu⟩⟩
  · obtain ⟨rfl, rfl⟩ := look1 h
    exact ⟨_, oc, hk _ _ hcb.1, hdc⟩
  · obtain ⟨rfl, rfl⟩ := look1 h
    exact hcb.2
  · show (vs.map some).length = ps.length
    rw [List.length_map, hl]
end

section
variable {X : Cx} {pins : List (Addr × Obj)} {σ : L2.St} {H : Hp} {s : Shared} {x C u : Addr} {E : Value → Shared → Prop} {A : Around}
abbrev mwV (x : Addr) : Obj := PySem.W.kxs_mw "ValueError.__init__" x
/-- the bound __init__ of ValueError, called -/
theorem call_mw {us : List Value} {Q : Value → Shared → Prop} (T : OexC X.K C) (I : Inv X pins σ H s) (e : H x = some (exo x C none)) (hu : s.heap.get? u = some (mwV x)) (hl : us.length ≤ sizeLine) (h : ∀ s', Inv X pins σ H s' → Q .none s') :
    wpAny (model X.prog X.w) A (call (.ref u) us) Q E s := by
  obtain ⟨nm, q, N, bs, bm, sn, sub, ab, col, dd, k0, k1, k2, k3, k5, hC, hbm⟩ := T.cls
  obtain ⟨t1, ho⟩ := exo_at I.hok e
  obtain ⟨hp, g, d, t, os⟩ := s
  have hC' := I.kIn _ _ hC
  refine wpAny_call (codeAny_of_tree ?_)
  show wpAny _ A.in1 (callAny (.ref u) ⟨us, []⟩) _ _ _
  simp only [callAny]
  refine wpAny_bind (wpAny_load hu ?_)
  simp only [PySem.W.kxs_mw, show (Value.type "method-wrapper" == Value.type "method" || Value.type "method-wrapper" == Value.type "builtin_function_or_method" || Value.type "method-wrapper" == Value.type "method-wrapper") = true by decide, if_true]
  refine PySem.W.KFB.if_so (by decide) ?_
  refine wpAny_bind (PySem.W.check_bound_init F.excBase_ValueError.toExcCallFacts hC' ho rfl ?_)
  refine wpAny_bind (wpAny_pure (wpAny_pure ?_))
  refine ⟨plainId_quiet F.excBase_ValueError.init.plain _, codeAny_builtin F.excBase_ValueError.initEntry ?_⟩
  refine PySem.W.exc_init_tree (cls := .ref C) (t0 := t1) (dv := none) (c2 := .none) (c3 := .none) (b4 := .bool false) ho hl fun h' k hx _ => ?_
  have J := I.write (t' := t) (x := x) (e := x) (o := exo x C none) (by rw [e]; exact True.intro) (.inl rfl) k ⟨_, hx⟩ (exo_ok hx)
  have eu : upd H x (exo x C none) = H := by
    funext b
    by_cases hb : b = x
    · rw [hb, upd_same, e]
    · rw [upd_ne hb]
  rw [eu] at J
  exact h _ J
end

theorem wpAny_loadGlobalName {M : Model} {A : Around} {E : Value → Shared → Prop} {s : Shared} {env : Env} {x : Str} {Q : Value → Shared → Prop} (hk : env.scope.kind = .function) (hx : env.kindOf x = some .globalImplicit) (h : wpAny M A (loadGlobal env x) Q E s) : wpAny M A (loadName env x) Q E s := by
  unfold loadName
  simp only [Env.blockKind, hk, hx, ScopeKind.isAnnotationScope, Bool.false_and, Bool.false_eq_true, if_false]
  exact h
section
variable {CX : CXT} {P : Program} {w : World} {K : PySem.W.Frag} {mg : Str → Option Value} {base : Heap} {k : Nat} {f cl cc C : Addr} {name qual : Str} {params : Arguments} {arg : Expr} {rest : List Stmt} {p0 p1 p2 pos pos' : Pos} {scope : Scope} {dV kV doc pm ct oc och : Value} {an od odh : Option Addr}
  {osl slh : Array (Option Value)} {vsh : Array Value} {file : Str} {tf : Tok} {ocl : Obj} {ar : Arg} {ps : List Str} {sp : Sp}
abbrev bodyS (arg : Expr) (rest : List Stmt) (p0 p1 p2 pos pos' : Pos) : List Stmt := .Expr (.Call (.Attribute (.Call (.Name "super" p0) [] [] p1) "__init__" p2) [arg] [] pos) pos' :: rest
theorem fn_super (lk : K.lookup f = some ⟨oc, od, .func (fnS name qual params (bodyS arg rest p0 p1 p2 pos pos') scope dV kV doc pm an (.ref cc) ct cl), osl⟩) (hcd : PySem.W.codeIn K (.ref cc) qual = true)
    (hcc : K.lookup cc = some ⟨och, odh, .fields vsh, slh⟩) (hvs : vsh[2]? = some (.str file tf)) (hfile : ((P.main.file : Str) == file) = true) (htop : (P.main.scope.names.lookup ("super" : Str)).isSome = false)
    (hcl : K.lookup cl = some ocl) (hocl : ocl.data = .cell (some (.ref C))) (S : ScS ps scope) (hsu : scope.names.lookup ("super" : Str) = some .globalImplicit) (hkc : scope.names.lookup ("__class__" : Str) = some .free) (hms : mg "super" = none)
    (hp : (params.posonlyargs ++ params.args).head? = some ar) (har : ps[0]? = some ar.arg) (T : OexC K C) (ho : PySem.W.nsIn K cStatics "thirdparty.any" = some none)
    (hm : PySem.W.ks_superIn K C C "__init__" = some (some (.builtin "ValueError.__init__"))) (hB : PySem.W.subIn K (.ref C) (.type "ValueError") = some true) (hCC : PySem.W.subIn K (.ref C) (.ref C) = some true)
    (he : ∀ env : Env, starEach [arg] env = [(false, eval arg env)]) (hsw : ∀ env : Env, swapsWith (.Call (.Attribute (.Call (.Name "super" p0) [] [] p1) "__init__" p2) [arg] [] pos) none pos'.line env = pure false)
    (pl : Env → Sem Bool) (hev : ∀ env : Env, eval (.Call (.Attribute (.Call (.Name "super" p0) [] [] p1) "__init__" p2) [arg] [] pos) env = (do
      let ov ← attributeBase (.Call (.Name "super" p0) [] [] p1) "__init__" env (eval (.Call (.Name "super" p0) [] [] p1) env)
      standAt p2.atName
      let (g, first) ← holding [ov] (getMethod ov "__init__" (pl env))
      callWith pos g first (backTo pos (starEach [arg] env)) []))
    (len : ∀ vs H Q E, sp vs H Q E → vs.length = ps.length)
    (hbody : ∀ (A : Around) (outer : List Env) (s : Shared) (H : Hp) (vs : List V) (Q : VK) (E : XK), Room k (A.deeper (envS qual scope s.heap.objs.size f cl (.ref cc))) → sp vs H Q E →
      ∃ (ta : TA) (t : TS) (x : Addr), PA (cxS CX P w K mg base ps A outer s H E (envS qual scope s.heap.objs.size f cl (.ref cc))) [arg] ta ∧ PSs (cxS CX P w K mg base ps A outer s H E (envS qual scope s.heap.objs.size f cl (.ref cc))) rest t ∧ vs[0]? = some (.ref x) ∧ H x = some (exo x C none) ∧
        ta (vs.map some) H (fun ws H1 => ws.length ≤ 1000 ∧ H1 x = some (exo x C none) ∧ t { nx := fun _ H' => Q .non H', rt := Q } (vs.map some) H1)) :
    FnOk P w K mg base CX (k + 1) f (fnS name qual params (bodyS arg rest p0 p1 p2 pos pos') scope dV kV doc pm an (.ref cc) ct cl) ps sp := by
  refine ⟨len, fun A outer s H args us vs Q E hr e0 hb r hsp => ?_⟩
  have hl := len _ _ _ _ hsp
  have KX : K.In s.heap := e0.mod.kin.keeps fun b o e => (e0.bs b o e).1
  have lim : s.heap.NoLimit := e0.mod.nolimit.keeps fun b o e => (e0.bs b o e).1
  have hlu : us.length = ps.length := by rw [← r.length, hl]
  obtain ⟨ta, t, x, hta, ht, hx0, hHx, hq⟩ := hbody A outer s H vs Q E (hr.deeper _) hsp
  refine PySem.ks_codeAny_call_defAt (binds := ps.zip us) hr.depth (KX _ _ lk) rfl lim (PySem.W.codeRec_of KX hcd) rfl hb S.nocell (fun y hy => S.par _ (List.of_mem_zip hy).1) (fun h0 hns hk => ?_) S.co S.gen S.kind
  have I : Inv (cxS CX P w K mg base ps A outer s H E (envS qual scope s.heap.objs.size f cl (.ref cc))) [] (vs.map some) H { s with heap := h0, toks := s.toks + (ps.zip us).length } :=
    inv_super (cv := .ref C) S hr.hd e0 hl r ⟨ocl, e0.mod.kin _ _ hcl, hocl⟩ hns hk
  refine PySem.ks_wpAt_execs_cons ?_
  refine PySem.ks_wpAt_Expr_any ?_ I.quiet (hsw _)
  refine PySem.ks_wpAt_MethodCall ?_ (hev _)
  refine PySem.ks_wpAt_super_base (ar := ar) hsu hkc (by decide) rfl (I.kIn _ _ lk) rfl hp rfl (I.kIn _ _ hcc) rfl hvs hfile htop ?_
  obtain ⟨mb, hb1, hb2⟩ := I.mod.blt
  refine wpAny_loadGlobalName S.kind hsu (Calls.loadGlobal_builtin (I.mod.glob.keeps I.bk) hms (hb1.keeps I.bk) ((hb2 "super" (by decide)).trans (show bootBuiltins "super" = some (.type "super") by decide +kernel)) ⟨rfl, ?_⟩)
  refine wpAny_loadName_free S.kind hkc rfl ⟨ocl, I.kIn _ _ hcl, hocl⟩ ?_
  obtain ⟨m, hn, hloc⟩ := I.loc
  obtain ⟨u0, ru0, lu0⟩ := hloc 0 ar.arg (.ref x) har (by rw [List.getElem?_map, hx0]; rfl) (.inl (S.par _ (List.mem_of_getElem? har)))
  obtain rfl : u0 = Value.ref x := ru0
  have hkl : (envS qual scope s.heap.objs.size f cl (.ref cc)).kindOf ar.arg = some .local := S.par _ (List.mem_of_getElem? har)
  have hv : m ar.arg = some (Value.ref x) := by
    rcases lu0 with ⟨_, h⟩ | ⟨h, _⟩
    · exact h
    · rcases h with h | h
      · have h' := hkl.symm.trans h
        cases h'
      · have h' := hkl.symm.trans h
        cases h'
  refine wpAny_loadName_local S.kind hkl hn hv ?_
  obtain ⟨nm, q, N, bs, bm, sn, sub, ab, col, dd, k0, k1, k2, k3, k5, hC, hbm⟩ := T.cls
  have hC' := I.kIn _ _ hC
  obtain ⟨t1, hox⟩ := exo_at I.hok hHx
  refine PySem.ks_wpAny_isType_cls hC' rfl ⟨rfl, ?_⟩
  refine PySem.ks_wpAny_call_super hC' rfl hox rfl (fun c z => by cases z) (PySem.W.looks_subIn I.kIn hCC) fun h1 hso hk1 => ?_
  have I1 : Inv (cxS CX P w K mg base ps A outer s H E (envS qual scope s.heap.objs.size f cl (.ref cc))) [] (vs.map some) H { s with heap := h1, toks := s.toks + (ps.zip us).length } := I.kept (t' := s.toks + (ps.zip us).length) hk1
  have hox1 := hk1 _ _ hox
  have hcl' : PySem.W.clsIn K C = some { name := nm, bases := bs, mro := .ref C :: bm, ns := N, qualname := q, hasDict := true, slotNames := sn, subclasses := sub, abstract := ab, collection := col, hasDel := false } := by
    unfold PySem.W.clsIn
    rw [hC] <;> rfl
  have hm' := hm
  unfold PySem.W.ks_superIn at hm'
  rw [hcl', Option.bind_some] at hm'
  have hxC : x ≠ C := fun z => by
    rw [z] at hox
    have z2 := hC'.symm.trans hox
    cases z2
  have hI : PySem.W.Looks (model P w) h1 (isInstance (.ref x) (.type "ValueError")) true := (show PySem.W.InstAt h1 x _ C none from ⟨hox1, rfl, rfl, trivial⟩).type.andThen (PySem.W.looks_subIn I1.kIn hB)
  refine PySem.W.kxs_getMethod PySem.W.kxs_ValueError hso (PySem.W.looks_opaque I1.kIn ho) (l₀ := .ref C :: bm) ((PySem.W.looks_clsIn I1.kIn hcl').andThen .now) rfl I1.kIn hm' hI hxC (by decide) ?_
  have hk2 : ∀ b o, h1.get? b = some o → (h1.push (mwV x)).get? b = some o := fun b o e => Heap.get?_push_of_some _ e
  have I2 : Inv (cxS CX P w K mg base ps A outer s H E (envS qual scope s.heap.objs.size f cl (.ref cc))) [] (vs.map some) H { s with heap := h1.push (mwV x), toks := s.toks + (ps.zip us).length + 1 } := I1.kept (t' := s.toks + (ps.zip us).length + 1) hk2
  have hu : (h1.push (mwV x)).get? h1.objs.size = some (mwV x) := Heap.get?_push_at rfl rfl
  have I3 : Inv (cxS CX P w K mg base ps A outer s H E (envS qual scope s.heap.objs.size f cl (.ref cc))) [(h1.objs.size, mwV x)] (vs.map some) H { s with heap := h1.push (mwV x), toks := s.toks + (ps.zip us).length + 1 } := by
    refine I2.pins_of fun p hp => ?_
    rw [List.mem_singleton.mp hp]
    exact ⟨hu, I1.hok.fresh (Nat.le_refl _), Nat.ne_of_gt I1.lt, I1.nofs (Nat.le_refl _), fun v z => by cases z⟩
  show wpAny _ _ (callWith pos (.ref h1.objs.size) [] (backTo pos (starEach [arg] (envS qual scope s.heap.objs.size f cl (.ref cc)))) []) _ _ _
  have hrun := hta.run pos _ _ _ _ _ I3 hq
  have hstar := he (envS qual scope s.heap.objs.size f cl (.ref cc))
  have hrun' : wpAny (model P w) (A.deeper (envS qual scope s.heap.objs.size f cl (.ref cc))) (spliced (backTo pos (starEach [arg] (envS qual scope s.heap.objs.size f cl (.ref cc))))) _ _ _ := hrun
  rw [hstar] at hrun' ⊢
  refine PySem.W.kxs_callWith (i := "ValueError.__init__") (x := x) rfl (Calls.evalArgs_plain (thn hrun' fun us1 s1 ⟨ws, H1, J, rw1, hz, hHx1, hq1⟩ => ?_))
  have hpin := (J.pin (h1.objs.size, mwV x) (by simp)).1
  refine ⟨hpin, ?_⟩
  refine call_mw T J hHx1 hpin (by show us1.length ≤ sizeLine; rw [← rw1.length, sizeLine_eq]; omega) fun s2 J2 => ?_
  refine wpAt_of_wpAny (wpAny_mono (ht.run [] s2 (vs.map some) H1 _ (J2.pins_of fun p hp => absurd hp (by simp)) hq1) (fun fl s' hs => ?_) fun e s' hs => hs)
  have fin : ∀ {σ' : L2.St} {H' : Hp} {v : V} {u : Value}, Inv (cxS CX P w K mg base ps A outer s H E (envS qual scope s.heap.objs.size f cl (.ref cc))) [] σ' H' s' → RelV v u → Q v H' → CE outer P w H s Q u s' :=
    fun {σ' H' v u} J rv q => ⟨v, H', J.os, J.bare, J.base, J.hok, rv, q⟩
  cases fl with
  | ret u =>
    obtain ⟨v, σ', H', J, rv, q⟩ := hs
    exact fin J rv q
  | next =>
    obtain ⟨σ', H', J, q⟩ := hs
    exact fin (v := V.non) (u := Value.none) J rfl q
  | brk =>
    obtain ⟨_, _, _, q⟩ := hs
    exact False.elim q
  | cont =>
    obtain ⟨_, _, _, q⟩ := hs
    exact False.elim q
end
end As

/-! a caught error with fields, which a context holds pinned: its fields, its class, a def that it is handed to -/
namespace As
open PySem PySem.Spec PyProof.Rows L2
def tXp (a : Addr) (dd : Addr) (f : Str) (te : TE) : TE := fun σ H Q => te σ H fun x H1 => x = .ref a ∧ ∃ (fs : List (Str × V)) (v : V), H1 dd = some (.xd fs) ∧ fs.lookup f = some v ∧ Q v H1
theorem pe_xp {X : Cx} {a C dd : Addr} {oe : Obj} {e : Expr} {te : TE} {pos : Pos} {n : Str} (T : XfC X.K C) (hno : PySem.W.findIn X.K (.ref C) n = some none)
    (hz : Zc (.ref C) (some dd) oe) (hf : ∃ vs, oe.data = .fields vs) (hp : (a, oe) ∈ X.pn) (he : PE X e te) (hb : attributeBase e n X.env (eval e X.env) = eval e X.env := by rfl) :
    PE X (.Attribute e n pos) (tXp a dd n te) := by
  refine ⟨fun pins s σ H Q I h => attr_of hb (thn (he.run pins s σ H _ I h) fun u s1 hh => ?_)⟩
  obtain ⟨x, H1, I1, rx, rfl, fs, v, ea, l, q⟩ := hh
  cases (show u = Value.ref a from rx)
  have ha := (I1.pin (a, oe) (List.mem_append_left _ hp)).1
  obtain ⟨vs, hd⟩ := hf
  obtain ⟨mA, hns, hr⟩ := (show ObjOk X.prog X.w H1 s1.heap dd (.xd fs) from I1.hok dd _ ea)
  obtain ⟨od, ho, hl⟩ := lookIn_ns hns
  obtain ⟨u, hu, ru⟩ := RelO.some_of (v := v) (o := mA n) (by rw [← l]; exact hr n)
  have J : PySem.W.InstAt s1.heap a oe C (some od) := ⟨ha, hz.1, by unfold PySem.W.notCls; rw [hd] <;> rfl, by rw [hz.2]; exact ho⟩
  exact HandSPX.exc_get I1.kIn J T.ga T.gg T.exC (PySem.W.findObj_own T.hdC hno rfl (by rw [hl, hu])) (handed_of ru) ⟨v, H1, I1.tok _, ru, q⟩
/-- isinstance of it, its dict there or not -/
def rIsP (K : PySem.W.Frag) (D a : Addr) (d : Option Addr) : List V → Hp → VK → Prop := fun xs H Q => ∃ (c : V) (cv : Value) (b : Bool), xs = [.ref a, c] ∧ (∀ dd, d = some dd → ∃ fs, H dd = some (.xd fs)) ∧ (∀ u, RelV c u → u = cv) ∧ PySem.W.kitOne K (.ref D) cv = some b ∧ Q (.bl b) H
theorem call_isP {X : Cx} {a D : Addr} {d : Option Addr} {oe : Obj} (C : ExcC X.K D) (hz : Zc (.ref D) d oe) (hf : ∃ vs, oe.data = .fields vs) (hp : (a, oe) ∈ X.pn) : CallR X (.builtin "isinstance") (rIsP X.K D a d) := by
  intro pins s σ H xs us Q I r h
  obtain ⟨c, cv, b, rfl, hdd, hcv, e, q⟩ := h
  cases r with
  | cons rx rr =>
    cases rr with
    | cons rt rr =>
      cases rr
      cases rx
      cases (hcv _ rt)
      have hget := (I.pin (a, oe) (List.mem_append_left _ hp)).1
      obtain ⟨vs, hv⟩ := hf
      have J : ∃ od, PySem.W.InstAt s.heap a oe D od := by
        obtain ⟨oc, od, oda, osl⟩ := oe
        obtain ⟨h1, h2⟩ := hz
        dsimp only at h1 h2 hv
        subst h1 h2 hv
        cases od with
        | none => exact ⟨none, hget, rfl, rfl, trivial⟩
        | some dd =>
          obtain ⟨fs, hx⟩ := hdd dd rfl
          obtain ⟨mA, hns, hr⟩ := (show ObjOk X.prog X.w H s.heap dd (.xd fs) from I.hok dd _ hx)
          obtain ⟨od, ho, hl⟩ := lookIn_ns hns
          exact ⟨some od, hget, rfl, rfl, ho⟩
      obtain ⟨od, J⟩ := J
      have hcl : (PySem.W.clsIn X.K D).isSome = true := by
        obtain ⟨cd, hc, _⟩ := PySem.W.any_some C.hd
        rw [hc]
        rfl
      exact PySem.W.kia_one (PySem.W.kitx_exc hcl C.hg C.hk C.hs C.ha C.hn C.ht C.hm) I.kIn J e (fun z => nomatch z) fun tk => ⟨.bl b, H, I.kept (t' := tk) fun _ _ z => z, rfl, q⟩
/-- a def called that is handed such a thing -/
theorem run_fnP {X : Cx} {pins : List (Addr × Obj)} {σ : L2.St} {H : Hp} {s : Shared} {Q : VK} {us : List Value} {vs : List V} {f : Addr} {name qual : Str} {params : Arguments} {body : List Stmt} {scope : Scope} {dV kV doc pm cdv ct oc : Value} {an od : Option Addr}
    {osl : Array (Option Value)} {N ps : List Str} {p : Addr × Obj} (lk : X.K.lookup f = some ⟨oc, od, .func (PySem.W.fnOf name qual params body scope dV kV doc pm an cdv ct), osl⟩) (hcd : PySem.W.codeIn X.K cdv qual = true) (S : FnScope N ps scope)
    (hb : Binds X.K (PySem.W.fnOf name qual params body scope dV kV doc pm an cdv ct) ps []) (hdp : X.A.depth < recursionLimit) (hp : p ∈ X.pn) (hl : vs.length = ps.length) (I : Inv X pins σ H s) (r : Vals vs us)
    (hbody : ∃ t, PSs (L2H.cxH C8.CX0 X.prog X.w X.K X.mg X.base N qual scope f cdv X.A X.stack s H C8.E0 p) body t ∧ t { nx := fun _ H' => Q .non H', rt := Q } (L2.start N vs) H) : wpAny (model X.prog X.w) X.A (call (.ref f) us) (EP X pins σ Q) X.xe s := by
  have e0 := I.env0
  have hpi := I.pin p (List.mem_append_left _ hp)
  have hpin : L2H.PinOk X.stack H s p := ⟨hpi.1, hpi.2.1, fun z => by
    rcases List.mem_cons.mp (I.stkSub _ z) with z | z
    · exact hpi.2.2.1 z
    · exact hpi.2.2.2.1 z, hpi.2.2.2.2⟩
  have hlu : us.length = ps.length := by rw [← r.length, hl]
  have hkind : ∀ y ∈ ps.zip us, scope.names.lookup y.1 = some .local ∨ (scope.names.lookup y.1 = some .cell ∧ ((cellsFrom (s.heap.objs.size + 1) scope.names []).lookup y.1).isSome = true) := by
    rintro ⟨n, v⟩ hy
    exact (S.par n (List.of_mem_zip hy).1).imp id fun q => ⟨q, PySem.W.cellsFrom_some _ _ _ (.inl q)⟩
  have hbs := hb s us I.kIn (by rw [List.append_nil]; exact hlu)
  rw [List.append_nil] at hbs
  have run : codeAny (model X.prog X.w) X.A (.call (.ref f) ⟨us, []⟩) (CR C8.CX0 X.stack X.prog X.w H s Q C8.E0) s := by
    refine codeAny_call_function hdp (I.kIn _ _ lk) rfl S.co S.gen rfl (PySem.W.codeRec_of I.kIn hcd) (hbs _ _ _ _ ?_)
    refine wpAny_newFunctionEnv_cells S.kind hkind fun env he s1 x => ?_
    subst he
    refine ⟨I.nolimit.keeps x.toInCall.keep, codeAny_func ?_⟩
    obtain ⟨t, ht, hq⟩ := hbody
    have J := L2H.inv_startH (CX := C8.CX0) (E := C8.E0) S hpin e0 hl r x
    refine wpAny_mono (ht.run [] s1 (L2.start N vs) H _ J hq) (fun fl s' hs => ?_) fun e s' hs => hs
    cases fl with
    | ret u =>
      obtain ⟨v, σ', H', J, rv, q⟩ := hs
      exact ⟨v, H', J.os, J.bare, J.base, J.hok, rv, q⟩
    | next =>
      obtain ⟨σ', H', J, q⟩ := hs
      exact ⟨V.non, H', J.os, J.bare, J.base, J.hok, rfl, q⟩
    | brk => exact hs.elim fun _ z => z.elim fun _ z => z.2.elim
    | cont => exact hs.elim fun _ z => z.elim fun _ z => z.2.elim
  refine wpAny_call (codeAny_mono run fun r s' hq => ?_)
  cases r with
  | error e => exact hq.elim
  | ok fl =>
    cases fl with
    | ret u => exact I.after hq
    | next => exact hq.elim
    | brk => exact hq.elim
    | cont => exact hq.elim
end As

namespace As
open PySem PySem.Spec PyProof.Rows L2
theorem passX0 {P : Program} {w : World} {X : Cx} : Passes (L2.CX P w) X E0 := fun _ _ _ _ _ _ _ h => by
  obtain ⟨_, _, _, _, _, _, _, _, _, _, _, _, h⟩ := h
  exact h.elim
theorem iv_int (ts : List Nat) : iv ts = (ts.map fun (t : Nat) => (t : Int)).map V.int := by
  unfold iv
  rw [List.map_map]
  rfl
theorem iv_get {l : List Nat} {k : Nat} (hk : k < l.length) : (iv l)[k]? = some (.int (l[k] : Nat)) := by
  unfold iv
  rw [List.getElem?_map, List.getElem?_eq_getElem hk]
  rfl
theorem iv_set (l : List Nat) (k v : Nat) : (iv l).set k (.int (v : Int)) = iv (l.set k v) := by
  unfold iv
  rw [List.map_set]
theorem iv_take (l : List Nat) (k : Nat) : (iv l).take k = iv (l.take k) := by
  unfold iv
  rw [List.map_take]
theorem getD_at {l : List Nat} {k : Nat} (hk : k < l.length) : l.getD k 0 = l[k] := by
  rw [List.getD_eq_getElem?_getD, List.getElem?_eq_getElem hk]
  rfl
theorem sum_cast : ∀ ts : List Nat, (ts.map fun (t : Nat) => (t : Int)).sum = (ts.sum : Nat)
  | [] => rfl
  | t :: ts => by
    rw [List.map_cons, List.sum_cons, List.sum_cons, sum_cast ts]
    omega
/-! ### a row of turns, and what weaving_fault tells of it -/
def wD (w : List Nat) : D := .lst (w.map fun (k : Nat) => D.int (k : Int))
theorem wD_V {st : Addr} {H : Hp} {v : V} {w : List Nat} (h : TD st H v (wD w)) : ∃ a, v = .ref a ∧ a ≠ st ∧ H a = some (.lst (iv w)) := by
  cases h with
  | @lst a xs _ n h t =>
    refine ⟨a, rfl, n, ?_⟩
    have e := tds_ints (ns := w.map fun (k : Nat) => (k : Int)) (xs := xs) (by rw [List.map_map]; exact t)
    rw [iv_int, ← e]
    exact h
theorem wD_of {st a : Addr} {H : Hp} {w : List Nat} (n : a ≠ st) (h : H a = some (.lst (iv w))) : TD st H (.ref a) (wD w) := by
  refine .lst n h ?_
  have := ints_tds (st := st) (H := H) (w.map fun (k : Nat) => (k : Int))
  rw [← iv_int, List.map_map] at this
  exact this
theorem flt_isW : ∀ {w ts : List Nat} (i : Nat), isW ts w → flt (ts.map fun (t : Nat) => (t : Int)) (w.map fun (k : Nat) => D.int (k : Int)) i = .non
  | [], ts, i, h => by
    show (if _ then _ else _) = _
    rw [if_neg]
    intro z
    obtain ⟨x, hx, hp⟩ := List.any_eq_true.mp z
    obtain ⟨t, ht, rfl⟩ := List.mem_map.mp hx
    obtain ⟨j, hj, rfl⟩ := List.mem_iff_getElem.mp ht
    have h1 := sum_zero_get h j
    rw [getD_at hj] at h1
    have h2 := of_decide_eq_true hp
    omega
  | k :: w, ts, i, h => by
    have hk := getD_lt h.1
    have e : stepF (ts.map fun (t : Nat) => (t : Int)) (.int (k : Int)) = some ((dec ts k).map fun (t : Nat) => (t : Int)) := by
      rw [stepF_at (by rw [List.length_map]; exact hk), List.getElem_map]
      have h1 := h.1
      rw [getD_at hk] at h1
      rw [if_neg (by omega)]
      unfold dec
      rw [List.map_set, getD_at hk]
      congr 2
      omega
    show (match stepF (ts.map fun (t : Nat) => (t : Int)) (.int (k : Int)) with | none => V.int i | some l => flt l (w.map fun (k : Nat) => D.int (k : Int)) (i + 1)) = _
    rw [e]
    exact flt_isW (i + 1) h.2
theorem tn9 {ls : List (List Pr)} (okl : ∀ l ∈ ls, okD l) : ∀ t ∈ tnOf ls, t ≤ 9 := fun t ht => by
  obtain ⟨l, hl, rfl⟩ := List.mem_map.mp ht
  have := (okl l hl).2.2.1
  omega
theorem tn_len (ls : List (List Pr)) : (tnOf ls).length = ls.length := List.length_map _
abbrev sCheckW : Stmt := topS 22
abbrev sFirst : Stmt := topS 24
abbrev sAt : Stmt := topS 25
abbrev sNum : Stmt := topS 26
abbrev nFirst : List Str := ["left", "number", "total", "size", "turn", "share"]
abbrev nAt : List Str := ["dealings", "number", "total", "left", "weaving", "turn"]
abbrev nNum : List Str := ["dealings", "weaving", "left", "total", "number", "turn", "size"]
theorem scCheckW : FnScope ["dealings", "thing", "place"] ["dealings", "thing"] (defScope sCheckW) := ⟨rfl, rfl, rfl, by decide +kernel, rfl, by decide +kernel, by decide +kernel⟩
theorem scFirst : FnScope nFirst ["left", "number", "total"] (defScope sFirst) := ⟨rfl, rfl, rfl, by decide +kernel, rfl, by decide +kernel, by decide +kernel⟩
theorem scAt : FnScope nAt ["dealings", "number"] (defScope sAt) := ⟨rfl, rfl, rfl, by decide +kernel, rfl, by decide +kernel, by decide +kernel⟩
theorem scNum : FnScope nNum ["dealings", "weaving"] (defScope sNum) := ⟨rfl, rfl, rfl, by decide +kernel, rfl, by decide +kernel, by decide +kernel⟩
section
variable {P : Program} {w : World} {K : PySem.W.Frag} {mg : Str → Option Value} {base : Heap} {CA CS CN : Addr}
/-! ### check_weaving, of a weaving -/
def spCheckW : Sp := fun vs H Q _ => ∃ (st : Addr) (v u : V) (ls : List (List Pr)) (wv : List Nat), vs = [v, u] ∧ TD st H v (dsD ls) ∧ areDealings (dsD ls) = true ∧ TD st H u (wD wv) ∧ isW (tnOf ls) wv ∧ ∀ H', Same H H' → Q .non H'
theorem isW900 {ls : List (List Pr)} {wv : List Nat} (are : areDealings (dsD ls) = true) (h : isW (tnOf ls) wv) : wv.length ≤ 900 := by
  obtain ⟨ls', e, okl, n1, n100⟩ := dealings_of are
  have e' := dsD_inj e
  subst e'
  have h1 := isW_len h
  have h2 := sum_le (tn9 okl)
  rw [tn_len] at h2
  omega
theorem ok_checkW {f f1 : Addr} {fd fd1 : FuncData} {k : Nat} (F : Fun K "check_weaving" "check_weaving" sCheckW f fd) (M : Mg mg)
    (G1 : FnOk P w K mg base (L2.CX P w) k f1 fd1 ["dealings", "thing"] (spWF CS)) (g1 : mg "weaving_fault" = some (.ref f1)) (k1 : PySem.W.keepIn K (.ref f1) = true) (b1 : Binds K fd1 ["dealings", "thing"] []) :
    FnOk P w K mg base CX0 (k + 1) f fd ["dealings", "thing"] spCheckW := by
  refine F.ok scCheckW (fun vs H Q E h => ?_) (fun cdv A outer s H vs Q E hr h => ?_)
  · obtain ⟨st, v, u, ls, wv, rfl, _⟩ := h
    rfl
  · obtain ⟨st, v, u, ls, wv, rfl, td, are, tu, hw, q⟩ := h
    refine ⟨_, pss_cons (ps_set (i := 2) scCheckW.nd rfl (.inl rfl) (pe_call (E := E0) G1 hr (by rfl) g1 k1 b1 .nil passX0 (pa_cons (pv 0) (pa_cons (pv 1) pa_nil))))
      (pss_one (ps_if (pt_cmpR op_notN (pv 2) pe_non (nomark _)) pss_never pss_nil)), ?_⟩
    have h900 := isW900 are hw
    refine ⟨v, rfl, u, rfl, st, v, u, dsD ls, wD wv, rfl, td, tu, fun ds e => by rw [← D.lst.inj e, List.length_map]; omega, fun hf => (Bool.false_ne_true (hf.symm.trans are)).elim, fun ls' el _ H1 s1 => ?_⟩
    have el' := dsD_inj el
    subst el'
    have e : wfv ls (wD wv) = .non := by
      show flt (turnsOf ls) _ 0 = _
      rw [turns_tn]
      exact flt_isW 0 hw
    rw [e]
    exact ⟨_, rfl, rfl, _, rfl, iteF (q _ s1)⟩
/-! ### number_of, of a weaving -/
def spNum : Sp := fun vs H Q _ => ∃ (st : Addr) (v u : V) (ls : List (List Pr)) (wv : List Nat), vs = [v, u] ∧ TD st H v (dsD ls) ∧ areDealings (dsD ls) = true ∧ TD st H u (wD wv) ∧ isW (tnOf ls) wv ∧ ∀ H', Same H H' → Q (.int (rank (tnOf ls) wv : Nat)) H'
theorem ok_num {f f1 f2 f3 : Addr} {fd fd1 fd2 fd3 : FuncData} {k : Nat} (F : Fun K "number_of" "number_of" sNum f fd) (M : Mg mg)
    (G1 : FnOk P w K mg base CX0 k f1 fd1 ["dealings", "thing"] spCheckW) (g1 : mg "check_weaving" = some (.ref f1)) (k1 : PySem.W.keepIn K (.ref f1) = true) (b1 : Binds K fd1 ["dealings", "thing"] [])
    (G2 : FnOk P w K mg base CX0 k f2 fd2 ["dealings"] spTurns) (g2 : mg "turns_of" = some (.ref f2)) (k2 : PySem.W.keepIn K (.ref f2) = true) (b2 : Binds K fd2 ["dealings"] [])
    (G3 : FnOk P w K mg base (L2.CX P w) k f3 fd3 ["dealings"] (spHow CS)) (g3 : mg "how_many" = some (.ref f3)) (k3 : PySem.W.keepIn K (.ref f3) = true) (b3 : Binds K fd3 ["dealings"] []) :
    FnOk P w K mg base CX0 (k + 1) f fd ["dealings", "weaving"] spNum := by
  refine F.ok scNum (fun vs H Q E h => ?_) (fun cdv A outer s H vs Q E hr h => ?_)
  · obtain ⟨st, v, u, ls, wv, rfl, _⟩ := h
    rfl
  · obtain ⟨st, v, u, ls, wv, rfl, td, are, tu, hw, q⟩ := h
    refine ⟨_, pss_cons (ps_expr (pe_call G1 hr (by rfl) g1 k1 b1 .nil pass0 (pa_cons (pv 0) (pa_cons (pv 1) pa_nil))))
      (pss_cons (ps_set (i := 2) scNum.nd rfl (.inl rfl) (pe_call G2 hr (by rfl) g2 k2 b2 .nil pass0 (pa_cons (pv 0) pa_nil)))
      (pss_cons (ps_set (i := 3) scNum.nd rfl (.inl rfl) (pe_call (E := E0) G3 hr (by rfl) g3 k3 b3 .nil passX0 (pa_cons (pv 0) pa_nil)))
      (pss_cons (ps_set (i := 4) scNum.nd rfl (.inl rfl) pe_int)
      (pss_cons (ps_for PassesOwn.never rfl (pi_list (pv 1)) (pg_name (i := 5) scNum.nd rfl (.inl rfl))
        (pss_cons (ps_set (i := 6) scNum.nd rfl (.inl rfl) (pe_callB (cr_sum rfl) (by rfl) M.sum (by decide +kernel) (pa_cons (pv 2) pa_nil)))
        (pss_cons (ps_aug (i := 4) scNum.nd rfl (.inl rfl) (pe_op op_fdiv (pe_op op_mul (pv 3) (pe_callB (cr_sum rfl) (by rfl) M.sum (by decide +kernel) (pa_cons (pe_slice sl_list (pv 2) po_none (po_some (pv 5))) pa_nil))) (pv 6)) ip_add)
        (pss_cons (ps_set (i := 3) scNum.nd rfl (.inl rfl) (pe_op op_fdiv (pe_op op_mul (pv 3) (pe_ix ix_list (pv 2) (pv 5) (fun _ _ => rfl))) (pv 6)))
        (pss_one (ps_augS (pv 2) (pv 5) as_getL pe_int ip_sub set_list))))))
      (pss_one (ps_ret (pv 4))))))), ?_⟩
    obtain ⟨ls', e, okl, n1, n100⟩ := dealings_of are
    have e' := dsD_inj e
    subst e'
    obtain ⟨b, rfl, nb, hb⟩ := wD_V tu
    refine ⟨v, rfl, .ref b, rfl, st, v, .ref b, ls, wv, rfl, td, are, tu, hw, fun H1 s1 => ?_⟩
    refine ⟨v, rfl, st, v, ls, rfl, td.mono (.of s1), by omega, fun tp H2 ntp s2 ht => ?_⟩
    rw [turns_tn, ← iv_int] at ht
    have s02 := Same.trans s1 s2
    have ntpH : H tp = none := Same.free s1 ntp
    refine ⟨v, rfl, st, v, dsD ls, rfl, td.mono (.of s02), fun hf => (Bool.false_ne_true (hf.symm.trans are)).elim, fun ls' el _ H3 s3 => ?_⟩
    have el' := dsD_inj el
    subst el'
    have s03 := Same.trans s02 s3
    refine ⟨.ref b, rfl, b, rfl, ⟨_, SqL.of (s03 _ _ hb)⟩, ?_⟩
    refine for_list (xs := iv wv) (fun i σ H' => ∃ (lf : List Nat) (m : Nat) (y5 y6 : Option V), σ = [some v, some (.ref b), some (.ref tp), some (.int (rows 0 lf : Nat)), some (.int (m : Nat)), y5, y6] ∧ Same H H' ∧ H' tp = some (.lst (iv lf)) ∧ lf.length = ls.length ∧ (∀ t ∈ lf, t ≤ 9) ∧ isW lf (wv.drop i) ∧ rank (tnOf ls) wv = m + rank lf (wv.drop i))
      ⟨tnOf ls, 0, none, none, rfl, s03, s3 _ _ ht, tn_len ls, tn9 okl, hw, by rw [List.drop_zero, Nat.zero_add]⟩ (fun i σ H' _ hP => ?_) (fun i x σ H4 hx hP => ?_) (fun σ H4 hP => ?_)
    · obtain ⟨_, _, _, _, _, e, _⟩ := hP
      exact SqL.of (e _ _ hb)
    · obtain ⟨lf, m, y5, y6, rfl, e4, ht4, hll, h9, hwi, hrk⟩ := hP
      have hil : i < wv.length := by
        have := (List.getElem?_eq_some_iff.mp hx).1
        rw [iv_len] at this
        exact this
      rw [iv_get hil] at hx
      have ex : V.int (wv[i] : Nat) = x := Option.some.inj hx
      subst ex
      have edr : wv.drop i = wv[i] :: wv.drop (i + 1) := List.drop_eq_getElem_cons hil
      obtain ⟨j, hj⟩ : ∃ j, wv[i] = j := ⟨_, rfl⟩
      rw [hj] at edr
      rw [edr] at hwi hrk
      rw [hj]
      obtain ⟨hpos, hwd⟩ := hwi
      have hjl := getD_lt hpos
      have hds := dec_sum lf j hpos
      have hs0 : 0 < lf.sum := by omega
      have hs900 : lf.sum ≤ 900 := by
        have := sum_le h9
        omega
      have hat : (iv lf)[j]? = some (.int (lf[j] : Nat)) := iv_get hjl
      refine ⟨.ref tp, rfl, tp, _, rfl, SqL.of (by rw [← iv_int]; exact ht4), ?_⟩
      rw [sum_cast]
      refine ⟨.int (m : Nat), rfl, .int (rows 0 lf : Nat), rfl, .ref tp, rfl, .int (j : Nat), rfl, _, rfl, tp, _, rfl, SqL.of ht4, fun c nc => ?_⟩
      rw [cut_to, iv_take]
      have s5 := same_new (o := .lst (iv (lf.take j))) nc
      have htk : (lf.take j).sum ≤ 900 := by
        have := sum_le (ts := lf.take j) (m := 9) fun t ht => h9 t (List.mem_of_mem_take ht)
        have h2 : (lf.take j).length ≤ 100 := by rw [List.length_take]; omega
        omega
      refine ⟨c, _, rfl, SqL.of (by rw [← iv_int]; exact upd_same), ?_⟩
      rw [sum_cast]
      refine ⟨_, _, rfl, rfl, .inr ⟨by omega, by omega⟩, .int (lf.sum : Nat), rfl, _, _, rfl, rfl, ⟨by omega, by omega⟩, _, _, rfl, rfl, ?_⟩
      have e1 : ((rows 0 lf : Nat) : Int) * ((lf.take j).sum : Nat) / (lf.sum : Nat) = ((pre lf j : Nat) : Int) := by
        rw [← Int.natCast_mul, ← Int.natCast_ediv, begin_ahead lf j hs0]
        rfl
      rw [e1]
      have ht5 := s5 _ _ ht4
      refine ⟨.int (rows 0 lf : Nat), rfl, .ref tp, rfl, .int (j : Nat), rfl, tp, _, j, .int (lf[j] : Nat), rfl, rfl, SqL.of ht5, atI_nat hat, _, _, rfl, rfl, .inr ⟨by omega, by have := h9 _ (List.getElem_mem hjl); omega⟩, .int (lf.sum : Nat), rfl, _, _, rfl, rfl, ⟨by omega, by omega⟩, ?_⟩
      have e2 : ((rows 0 lf : Nat) : Int) * (lf[j] : Nat) / (lf.sum : Nat) = ((rows 0 (dec lf j) : Nat) : Int) := by
        rw [← Int.natCast_mul, ← Int.natCast_ediv, ← getD_at hjl, rows_shareD hpos]
      dsimp only
      rw [e2]
      refine ⟨.ref tp, rfl, .int (j : Nat), rfl, tp, _, j, .int (lf[j] : Nat), rfl, rfl, SqL.of ht5, hat, _, 1, rfl, rfl, tp, _, j, j, rfl, rfl, ht5, ?_, ?_⟩
      · unfold ixN
        rw [if_pos (by omega), if_pos (by rw [iv_len]; omega), Int.toNat_natCast]
      · refine ⟨dec lf j, m + pre lf j, some (.int (j : Int)), some (.int (lf.sum : Nat)), ?_, Same.mut (Same.trans e4 s5) ntpH, ?_, by rw [dec_len]; exact hll, dec_le h9 j, hwd, ?_⟩
        · show [some v, some (V.ref b), some (V.ref tp), some (V.int ((rows 0 (dec lf j) : Nat) : Int)), some (V.int (((m : Nat) : Int) + ((pre lf j : Nat) : Int))), _, _] = _
          rw [← Int.natCast_add]
        · rw [upd_same]
          congr 2
          rw [getD_at hjl] at hpos
          dsimp only
          rw [show ((lf[j] : Nat) : Int) - 1 = ((lf[j] - 1 : Nat) : Int) by omega, iv_set]
          unfold dec
          rw [getD_at hjl]
        · rw [hrk]
          show m + (pre lf j + rank (dec lf j) (wv.drop (i + 1))) = _
          omega
    · obtain ⟨lf, m, y5, y6, rfl, e4, ht4, hll, h9, hwi, hrk⟩ := hP
      rw [iv_len, List.drop_length] at hrk
      have e5 : rank (tnOf ls) wv = m := hrk
      refine ⟨_, rfl, ?_⟩
      rw [← e5]
      exact q _ e4
/-! ### first_turn -/
def spFirst : Sp := fun vs H Q _ => ∃ (a : Addr) (lf : List Nat) (m : Nat), vs = [.ref a, .int (m : Int), .int (rows 0 lf : Nat)] ∧ H a = some (.lst (iv lf)) ∧ (∀ t ∈ lf, t ≤ 9) ∧ lf.length ≤ 100 ∧ 0 < lf.sum ∧ m < rows 0 lf ∧
  ∀ (j : Nat) (p : Addr), pre lf j ≤ m → m < pre lf (j + 1) → 0 < lf.getD j 0 → H p = none → Q (.ref p) (upd H p (.tup [.int (j : Int), .int ((m - pre lf j : Nat) : Int), .int (rows 0 (dec lf j) : Nat)]))
theorem ok_first {f : Addr} {fd : FuncData} {k : Nat} (F : Fun K "first_turn" "first_turn" sFirst f fd) (M : Mg mg) : FnOk P w K mg base CX0 (k + 1) f fd ["left", "number", "total"] spFirst := by
  refine F.ok scFirst (fun vs H Q E h => ?_) (fun cdv A outer s H vs Q E hr h => ?_)
  · obtain ⟨a, lf, m, rfl, _⟩ := h
    rfl
  · obtain ⟨a, lf, m, rfl, ha, h9, h100, hs0, hm, q⟩ := h
    refine ⟨_, pss_cons (ps_set (i := 3) scFirst.nd rfl (.inl rfl) (pe_callB (cr_sum rfl) (by rfl) M.sum (by decide +kernel) (pa_cons (pv 0) pa_nil)))
      (pss_cons (ps_set (i := 4) scFirst.nd rfl (.inl rfl) pe_int)
      (pss_cons (ps_set (i := 5) scFirst.nd rfl (.inl rfl) (pe_op op_fdiv (pe_op op_mul (pv 2) (pe_ix ix_list (pv 0) (pv 4) (fun _ _ => rfl))) (pv 3)))
      (pss_cons (ps_while PassesOwn.never (pt_cmpR op_ge (pv 1) (pv 5) (nomark _))
        (pss_cons (ps_aug (i := 1) scFirst.nd rfl (.inl rfl) (pv 5) ip_sub)
        (pss_cons (ps_aug (i := 4) scFirst.nd rfl (.inl rfl) pe_int ip_add)
        (pss_one (ps_set (i := 5) scFirst.nd rfl (.inl rfl) (pe_op op_fdiv (pe_op op_mul (pv 2) (pe_ix ix_list (pv 0) (pv 4) (fun _ _ => rfl))) (pv 3)))))))
      (pss_one (ps_ret (pe_tup (pa_cons (pv 4) (pa_cons (pv 1) (pa_cons (pv 5) pa_nil))))))))), ?_⟩
    have hs900 : lf.sum ≤ 900 := by
      have := sum_le h9
      omega
    have hlen : 0 < lf.length := by
      obtain ⟨j, hj⟩ := sum_pos_get hs0
      have := getD_lt hj
      omega
    have share : ∀ j, (hj : j < lf.length) → ((rows 0 lf : Nat) : Int) * (lf[j] : Nat) / (lf.sum : Nat) = ((begin_ lf j : Nat) : Int) := fun j hj => by
      rw [← Int.natCast_mul, ← Int.natCast_ediv, ← getD_at hj, begin_share lf j hs0]
    have small : ∀ j, (hj : j < lf.length) → lf[j] ≤ 9 := fun j hj => h9 _ (List.getElem_mem hj)
    refine ⟨.ref a, rfl, a, _, rfl, SqL.of (by rw [← iv_int]; exact ha), ?_⟩
    rw [sum_cast]
    refine ⟨.int (rows 0 lf : Nat), rfl, .ref a, rfl, .int 0, rfl, a, _, (0 : Nat), .int (lf[0] : Nat), rfl, rfl, SqL.of ha, atI_nat (j := 0) (iv_get hlen), _, _, rfl, rfl, .inr ⟨by omega, by have := small 0 hlen; omega⟩, .int (lf.sum : Nat), rfl, _, _, rfl, rfl, ⟨by omega, by omega⟩, ?_⟩
    dsimp only
    rw [share 0 hlen]
    refine ⟨fun mm σ H' => ∃ j : Nat, mm = lf.length - j ∧ j < lf.length ∧ pre lf j ≤ m ∧ σ = [some (.ref a), some (.int ((m - pre lf j : Nat) : Int)), some (.int (rows 0 lf : Nat)), some (.int (lf.sum : Nat)), some (.int (j : Int)), some (.int (begin_ lf j : Nat))] ∧ H' = H, ⟨_, 0, rfl, hlen, Nat.zero_le _, rfl, rfl⟩, fun mm σ H' hP => ?_⟩
    obtain ⟨j, rfl, hj, hpj, rfl, rfl⟩ := hP
    refine ⟨_, rfl, _, rfl, _, _, rfl, rfl, _, rfl, ite2 (fun e => ?_) (fun e => ?_)⟩
    · have hge : begin_ lf j ≤ m - pre lf j := by have := of_decide_eq_true e; omega
      have hj1 : j + 1 < lf.length := by
        apply Nat.lt_of_not_le
        intro z
        have h1 : j + 1 = lf.length := by omega
        have h2 := pre_all lf hs0
        rw [← h1, pre_next] at h2
        omega
      refine ⟨fun σ' H2 => σ' = [some (.ref a), some (.int ((m - pre lf (j + 1) : Nat) : Int)), some (.int (rows 0 lf : Nat)), some (.int (lf.sum : Nat)), some (.int ((j + 1 : Nat) : Int)), some (.int (begin_ lf (j + 1) : Nat))] ∧ H2 = H', fun σ' H2 hN => ?_, ?_⟩
      · obtain ⟨rfl, rfl⟩ := hN
        exact ⟨lf.length - (j + 1), by omega, j + 1, rfl, hj1, by rw [pre_next]; omega, rfl, rfl⟩
      · refine ⟨_, rfl, _, rfl, _, _, rfl, rfl, _, rfl, _, 1, rfl, rfl, .int (rows 0 lf : Nat), rfl, .ref a, rfl, .int ((j : Int) + 1), rfl, a, _, ((j + 1 : Nat) : Int), .int (lf[j + 1] : Nat), rfl, by rw [Int.natCast_add]; rfl, SqL.of ha, atI_nat (iv_get hj1), _, _, rfl, rfl, .inr ⟨by omega, by have := small _ hj1; omega⟩, .int (lf.sum : Nat), rfl, _, _, rfl, rfl, ⟨by omega, by omega⟩, ?_, rfl⟩
        dsimp only
        rw [share _ hj1]
        show [some (V.ref a), some (V.int (((m - pre lf j : Nat) : Int) - ((begin_ lf j : Nat) : Int))), some (V.int (rows 0 lf : Nat)), some (V.int (lf.sum : Nat)), some (V.int ((j : Int) + 1)), some (V.int (begin_ lf (j + 1) : Nat))] = _
        rw [show ((m - pre lf j : Nat) : Int) - ((begin_ lf j : Nat) : Int) = ((m - pre lf (j + 1) : Nat) : Int) by rw [pre_next]; omega]
        rfl
    · have hlt : m - pre lf j < begin_ lf j := by
        apply Nat.lt_of_not_le
        intro z
        exact e (decide_eq_true (by omega))
      have hpos : 0 < lf.getD j 0 := by
        apply Nat.pos_of_ne_zero
        intro z
        have : begin_ lf j = 0 := if_neg (by omega)
        omega
      have hb : begin_ lf j = rows 0 (dec lf j) := if_pos hpos
      refine ⟨_, rfl, _, rfl, _, rfl, by show 3 ≤ sizeLine; decide, fun p np => ?_⟩
      rw [hb]
      exact q j p hpj (by rw [pre_next]; omega) hpos np
/-! ### weaving_at -/
def spAt (CS CN : Addr) : Sp := fun vs H Q E => ∃ (st : Addr) (v u : V) (d e : D), vs = [v, u] ∧ TD st H v d ∧ TD st H u e ∧ (areDealings d = false → ∀ H', Same H H' → E (.ref CS) none H') ∧
  ∀ ls, d = dsD ls → areDealings d = true → (numB e (rows 0 (tnOf ls) : Nat) = false → ∀ H', Same H H' → E (.ref CN) none H') ∧ ∀ (wv : List Nat) (p : Addr) (H' : Hp), e = .int (rank (tnOf ls) wv : Nat) → isW (tnOf ls) wv → H p = none → Same H H' → H' p = some (.lst (iv wv)) → Q (.ref p) H'
theorem ok_at {f f1 f2 f3 f4 : Addr} {fd fd1 fd2 fd3 fd4 : FuncData} {k : Nat} (F : Fun K "weaving_at" "weaving_at" sAt f fd) (M : Mg mg) (T : Er K mg "NoNumber" CA CN)
    (G1 : FnOk P w K mg base (L2.CX P w) k f1 fd1 ["dealings"] (spHow CS)) (g1 : mg "how_many" = some (.ref f1)) (k1 : PySem.W.keepIn K (.ref f1) = true) (b1 : Binds K fd1 ["dealings"] [])
    (G2 : FnOk P w K mg base CX0 k f2 fd2 ["thing", "many"] spIsNumber) (g2 : mg "is_number" = some (.ref f2)) (k2 : PySem.W.keepIn K (.ref f2) = true) (b2 : Binds K fd2 ["thing", "many"] [])
    (G3 : FnOk P w K mg base CX0 k f3 fd3 ["dealings"] spTurns) (g3 : mg "turns_of" = some (.ref f3)) (k3 : PySem.W.keepIn K (.ref f3) = true) (b3 : Binds K fd3 ["dealings"] [])
    (G4 : FnOk P w K mg base CX0 k f4 fd4 ["left", "number", "total"] spFirst) (g4 : mg "first_turn" = some (.ref f4)) (k4 : PySem.W.keepIn K (.ref f4) = true) (b4 : Binds K fd4 ["left", "number", "total"] []) :
    FnOk P w K mg base (L2.CX P w) (k + 1) f fd ["dealings", "number"] (spAt CS CN) := by
  refine F.okX scAt (fun vs H Q E h => ?_) (fun cdv A outer s H vs Q E hr h => ?_)
  · obtain ⟨st, v, u, d, e, rfl, _⟩ := h
    rfl
  · obtain ⟨st, v, u, d, e, rfl, td, te, q1, q2⟩ := h
    refine ⟨_, pss_cons (ps_set (i := 2) scAt.nd rfl (.inl rfl) (pe_call (E := E) G1 hr (by rfl) g1 k1 b1 .nil (passes_call (takes_of rfl rfl rfl rfl) (fun _ _ _ _ h => h)) (pa_cons (pv 0) pa_nil)))
      (pss_cons (ps_if (pt_not (pt_val (pe_call G2 hr (by rfl) g2 k2 b2 .nil pass0 (pa_cons (pv 1) (pa_cons (pv 2) pa_nil))))) (pss_one (ps_raise rfl (takes_of rfl rfl rfl rfl) (pmk_own PySem.F.excBase_ValueError T.x T.g T.k (raises_own T.b T.t) (by rfl)))) pss_nil)
      (PSs.nox (pss_cons (ps_set (i := 3) scAt.nd rfl (.inl rfl) (pe_call G3 hr (by rfl) g3 k3 b3 .nil pass0 (pa_cons (pv 0) pa_nil)))
      (pss_cons (ps_set (i := 4) scAt.nd rfl (.inl rfl) (pe_lst pa_nil))
      (pss_cons (ps_while PassesOwn.never (pt_cmpR op_gt (pe_callB (cr_sum rfl) (by rfl) M.sum (by decide +kernel) (pa_cons (pv 3) pa_nil)) pe_int (nomark _))
        (pss_cons (ps_asg (pe_call G4 hr (by rfl) g4 k4 b4 .nil pass0 (pa_cons (pv 3) (pa_cons (pv 1) (pa_cons (pv 2) pa_nil)))) (pg_tup rfl (pgs_cons (pg_name (i := 5) scAt.nd rfl (.inl rfl)) (pgs_cons (pg_name (i := 1) scAt.nd rfl (.inl rfl)) (pgs_cons (pg_name (i := 2) scAt.nd rfl (.inl rfl)) pgs_nil)))))
        (pss_cons (ps_expr (pe_bm PySem.F.plainAttrs_list PySem.F.slot_list_append PySem.F.type_list_append mt_append (pv 4) (pa_cons (pv 5) pa_nil)))
        (pss_one (ps_augS (pv 3) (pv 5) as_getL pe_int ip_sub set_list)))))
      (pss_one (ps_ret (pv 4)))))))), ?_⟩
    refine ⟨v, rfl, st, v, d, rfl, td, q1, fun ls el hd H1 s1 => ?_⟩
    subst el
    obtain ⟨q3, q4⟩ := q2 ls rfl hd
    obtain ⟨ls', e', okl, n1, n100⟩ := dealings_of hd
    have e'' := dsD_inj e'
    subst e''
    refine ⟨u, rfl, .int (rows 0 (tnOf ls) : Nat), rfl, st, u, e, _, rfl, te.mono (.of s1), _, rfl, ?_⟩
    cases hnum : numB e (rows 0 (tnOf ls) : Nat) with
    | false => exact iteT (q3 hnum _ s1)
    | true =>
    obtain ⟨m, rfl, hm⟩ := num_of hnum
    cases te
    obtain ⟨wv, hw, hrk⟩ := rank_onto _ (ts := tnOf ls) (m := m) rfl hm
    refine iteF ⟨v, rfl, st, v, ls, rfl, td.mono (.of s1), by omega, fun tp H3 ntp s3 ht => ⟨Nat.zero_le _, fun pw npw => ?_⟩⟩
    rw [turns_tn, ← iv_int] at ht
    have s4 := same_new (o := .lst []) npw
    have s13 := Same.trans s1 s3
    have ntpH : H tp = none := Same.free s1 ntp
    have npwH : H pw = none := Same.free s13 npw
    have ntw : tp ≠ pw := ne_of_none ht npw
    have hw900 := isW900 hd hw
    refine ⟨fun mm σ H' => ∃ (i : Nat) (lf : List Nat) (m' : Nat) (y5 : Option V), mm = wv.length - i ∧ i ≤ wv.length ∧ σ = [some v, some (.int (m' : Nat)), some (.int (rows 0 lf : Nat)), some (.ref tp), some (.ref pw), y5] ∧ Same H H' ∧ H' tp = some (.lst (iv lf)) ∧ H' pw = some (.lst (iv (wv.take i))) ∧ lf.length = ls.length ∧ (∀ t ∈ lf, t ≤ 9) ∧ isW lf (wv.drop i) ∧ m' = rank lf (wv.drop i),
      ⟨_, 0, tnOf ls, m, none, rfl, Nat.zero_le _, rfl, Same.trans s13 s4, s4 _ _ ht, upd_same, tn_len ls, tn9 okl, hw, hrk.symm⟩, fun mm σ H5 hP => ?_⟩
    obtain ⟨i, lf, m', y5, rfl, hi, rfl, e5, ht5, hp5, hll, h9, hwi, rfl⟩ := hP
    have hs900 : lf.sum ≤ 900 := by
      have := sum_le h9
      omega
    refine ⟨.ref tp, rfl, tp, _, rfl, SqL.of (by rw [← iv_int]; exact ht5), ?_⟩
    rw [sum_cast]
    have hlen := isW_len hwi
    rw [List.length_drop] at hlen
    refine ⟨_, 0, rfl, rfl, _, rfl, ite2 (fun ec => ?_) (fun ec => ?_)⟩
    · have hs0 : 0 < lf.sum := by have := of_decide_eq_true ec; omega
      have hil : i < wv.length := by omega
      have edr : wv.drop i = wv[i] :: wv.drop (i + 1) := List.drop_eq_getElem_cons hil
      have etk : wv.take (i + 1) = wv.take i ++ [wv[i]] := by rw [List.take_add_one, List.getElem?_eq_getElem hil]; rfl
      obtain ⟨jj, hjj⟩ : ∃ jj, wv[i] = jj := ⟨_, rfl⟩
      rw [hjj] at edr etk
      rw [edr] at hwi
      have hfa := first_at hwi
      obtain ⟨hpos, hwd⟩ := hwi
      have hjl := getD_lt hpos
      refine ⟨fun σ' H' => ∃ (lf' : List Nat) (y5 : Option V), σ' = [some v, some (.int (rank lf' (wv.drop (i + 1)) : Nat)), some (.int (rows 0 lf' : Nat)), some (.ref tp), some (.ref pw), y5] ∧ Same H H' ∧ H' tp = some (.lst (iv lf')) ∧ H' pw = some (.lst (iv (wv.take (i + 1)))) ∧ lf'.length = ls.length ∧ (∀ t ∈ lf', t ≤ 9) ∧ isW lf' (wv.drop (i + 1)), fun σ' H' hN => ?_, ?_⟩
      · obtain ⟨lf', y5, rfl, a1, a2, a3, a4, a5, a6⟩ := hN
        exact ⟨wv.length - (i + 1), by omega, i + 1, lf', _, y5, rfl, hil, rfl, a1, a2, a3, a4, a5, a6, rfl⟩
      · refine ⟨.ref tp, rfl, .int (rank lf (wv.drop i) : Nat), rfl, .int (rows 0 lf : Nat), rfl, tp, lf, _, rfl, ht5, h9, by omega, hs0, rank_lt (by rw [edr]; exact ⟨hpos, hwd⟩), fun j p hj1 hj2 _ np => ?_⟩
        have ej : j = jj := by
          rw [edr] at hj1 hj2
          exact first_only hj1 hj2 hfa.1 (by rw [pre_next]; exact hfa.2)
        subst ej
        have em : rank lf (wv.drop i) - pre lf j = rank (dec lf j) (wv.drop (i + 1)) := by
          rw [edr]
          show pre lf j + rank (dec lf j) (wv.drop (i + 1)) - pre lf j = _
          omega
        rw [em]
        have s6 := same_new (o := .tup [.int (j : Int), .int (rank (dec lf j) (wv.drop (i + 1)) : Nat), .int (rows 0 (dec lf j) : Nat)]) np
        have hp6 := s6 _ _ hp5
        have ht6 := s6 _ _ ht5
        have hat : (iv lf)[j]? = some (.int (lf[j] : Nat)) := iv_get hjl
        refine ⟨p, _, rfl, SqT.of upd_same, rfl, _, _, rfl, _, _, rfl, _, _, rfl, rfl, ?_⟩
        refine ⟨.ref pw, rfl, .inl ⟨rfl, _, SqL.of hp6⟩, .int (j : Int), rfl, pw, _, _, rfl, rfl, hp6, sl_lt (by rw [iv_len, List.length_take]; omega), ?_⟩
        have ht7 : (upd (upd H5 p (.tup [.int (j : Int), .int (rank (dec lf j) (wv.drop (i + 1)) : Nat), .int (rows 0 (dec lf j) : Nat)])) pw (.lst (iv (wv.take i) ++ [.int (j : Int)]))) tp = some (.lst (iv lf)) := by
          rw [upd_ne ntw]
          exact ht6
        refine ⟨.ref tp, rfl, .int (j : Int), rfl, tp, _, j, .int (lf[j] : Nat), rfl, rfl, SqL.of ht7, hat, _, 1, rfl, rfl, tp, _, j, j, rfl, rfl, ht7, ?_, ?_⟩
        · unfold ixN
          rw [if_pos (by omega), if_pos (by rw [iv_len]; omega), Int.toNat_natCast]
        · refine ⟨dec lf j, _, rfl, Same.mut (Same.mut (Same.trans e5 s6) npwH) ntpH, ?_, ?_, by rw [dec_len]; exact hll, dec_le h9 j, hwd⟩
          · rw [upd_same]
            congr 2
            rw [getD_at hjl] at hpos
            dsimp only
            rw [show ((lf[j] : Nat) : Int) - 1 = ((lf[j] - 1 : Nat) : Int) by omega, iv_set]
            unfold dec
            rw [getD_at hjl]
          · rw [upd_ne (Ne.symm ntw), upd_same, etk]
            unfold iv
            rw [List.map_append]
            rfl
    · have hs0 : lf.sum = 0 := by
        apply Nat.eq_zero_of_not_pos
        intro z
        exact ec (decide_eq_true (by omega))
      have hiw : i = wv.length := by omega
      rw [hiw, List.take_length] at hp5
      exact ⟨_, rfl, q4 wv pw H5 (by rw [hrk]) hw npwH e5 hp5⟩
end
end As

namespace As
open PySem PySem.Spec PyProof.Rows L2
/-! ### NoWeaving(place) -/
def clsBody : Stmt → List Stmt
  | .ClassDef _ _ _ b _ _ _ _ _ _ _ => b
  | _ => []
abbrev sIni : Stmt := (clsBody (topS 5)).getD 0 (.Pass ⟨0, 0, 0, 0⟩)
theorem scIni : ScS ["self", "place"] (defScope sIni) := ⟨rfl, rfl, rfl, by decide +kernel, by decide +kernel, by decide +kernel, by decide +kernel⟩
def spIni (CW : Addr) : Sp := fun vs H Q _ => ∃ (x : Addr) (i : Int), vs = [.ref x, .int i] ∧ i.natAbs < 100000 ∧ H x = some (exo x CW none) ∧ ∀ d, H d = none → d ≠ x → Q .non (upd (upd H d (exd d [("place", .int i)])) x (exo x CW (some d)))
section
variable {P : Program} {w : World} {K : PySem.W.Frag} {mg : Str → Option Value} {base : Heap} {CW fI cl cc : Addr}
theorem ok_ini {k : Nat} {oc och dV kV doc pm ct : Value} {an od odh : Option Addr} {osl slh : Array (Option Value)} {vsh : Array Value} {file : Str} {tf : Tok} {ocl : Obj}
    (lk : K.lookup fI = some ⟨oc, od, .func (fnS "__init__" "NoWeaving.__init__" (defArgs sIni) (defBody sIni) (defScope sIni) dV kV doc pm an (.ref cc) ct cl), osl⟩) (hcd : PySem.W.codeIn K (.ref cc) "NoWeaving.__init__" = true)
    (hcc : K.lookup cc = some ⟨och, odh, .fields vsh, slh⟩) (hvs : vsh[2]? = some (.str file tf)) (hfile : ((P.main.file : Str) == file) = true) (htop : (P.main.scope.names.lookup ("super" : Str)).isSome = false)
    (hcl : K.lookup cl = some ocl) (hocl : ocl.data = .cell (some (.ref CW))) (hms : mg "super" = none) (T : OexC K CW) (ho : PySem.W.nsIn K cStatics "thirdparty.any" = some none)
    (hm : PySem.W.ks_superIn K CW CW "__init__" = some (some (.builtin "ValueError.__init__"))) (hB : PySem.W.subIn K (.ref CW) (.type "ValueError") = some true) (hCC : PySem.W.subIn K (.ref CW) (.ref CW) = some true)
    (hno : PySem.W.findIn K (.ref CW) "place" = some none) :
    FnOk P w K mg base C8.CX0 (k + 1) fI (fnS "__init__" "NoWeaving.__init__" (defArgs sIni) (defBody sIni) (defScope sIni) dV kV doc pm an (.ref cc) ct cl) ["self", "place"] (spIni CW) := by
  refine fn_super lk hcd hcc hvs hfile htop hcl hocl scIni rfl rfl hms rfl rfl T ho hm hB hCC (fun _ => rfl) (fun _ => rfl) (fun _ => _) (fun _ => rfl) (fun vs H Q E h => ?_) (fun A outer s H vs Q E hr h => ?_)
  · obtain ⟨x, i, rfl, _⟩ := h
    rfl
  · obtain ⟨x, i, rfl, hi, hx, q⟩ := h
    refine ⟨_, _, x, pa_cons (pe_joined (.cons pe_str (.cons (pe_fmt (pv 1)) .nil))) pa_nil, pss_one (ps_ost (pv 0) (pv 1)), rfl, hx, ?_⟩
    refine ⟨_, rfl, ?_, .int i, rfl, .inr ⟨i, rfl, ?_, _, rfl, ?_, ?_⟩⟩
    · show (Str.empty ++ Str.ofString "no weaving of these dealings: the fault is at ").length ≤ sizeLine
      rw [sizeLine_eq]
      decide +kernel
    · by_cases z : i.natAbs = 0
      · rw [z]
        decide
      · refine (Nat.log2_lt z).mpr (Nat.lt_of_lt_of_le hi ?_)
        exact Nat.le_trans (show 100000 ≤ 2 ^ 20 by decide) (Nat.pow_le_pow_right (by decide) (by decide))
    · have e := int_text_length_le10 (k := 5) (by decide) hi
      rw [Str.length_append, PySem.ofString_length (toString i), sizeLine_eq]
      have e2 : (Str.empty ++ Str.ofString "no weaving of these dealings: the fault is at ").length ≤ 100 := by decide +kernel
      omega
    · refine ⟨by show 1 ≤ 1000; omega, hx, .int i, rfl, .ref x, rfl, x, CW, rfl, T, hno, .inl ⟨hx, fun dx n ne => q dx n ne⟩⟩

/-- how NoWeaving is made -/
structure Nw (P : Program) (w : World) (K : PySem.W.Frag) (mg : Str → Option Value) (base : Heap) (CW : Addr) (k : Nat) : Prop where
  ex : ∃ (fI : Addr) (fd : FuncData), FnOk P w K mg base C8.CX0 k fI fd ["self", "place"] (spIni CW) ∧ PySem.W.findIn K (.ref CW) "__init__" = some (some (.ref fI)) ∧ PySem.W.typeIn K (.ref fI) = some (.type "function") ∧ Binds K fd ["self", "place"] []
  T : OexC K CW
  g : mg "NoWeaving" = some (.ref CW)
theorem Nw.mono {j k : Nat} {P : Program} {w : World} {K : PySem.W.Frag} {mg : Str → Option Value} {base : Heap} {CW : Addr} (h : Nw P w K mg base CW j) (hj : j ≤ k) : Nw P w K mg base CW k := by
  obtain ⟨fI, fd, F, r⟩ := h.ex
  exact ⟨⟨fI, fd, F.mono hj, r⟩, h.T, h.g⟩
/-! ### check_weaving, of anything -/
def spCheckA (CS CW : Addr) : Sp := fun vs H Q E => ∃ (st : Addr) (v u : V) (d e : D), vs = [v, u] ∧ TD st H v d ∧ TD st H u e ∧ (∀ ds, e = .lst ds → ds.length ≤ 10000) ∧ (areDealings d = false → ∀ H', Same H H' → E (.ref CS) none H') ∧
  ∀ ls, d = dsD ls → areDealings d = true → (wfv ls e = .non → ∀ H', Same H H' → Q .non H') ∧ (∀ i : Int, wfv ls e = .int i → ∀ dd H', Same H H' → H dd = none → H' dd = some (.xd [("place", .int i)]) → E (.ref CW) (some dd) H')
theorem flt_int : ∀ {ds : List D} {l : List Int} {n : Nat}, flt l ds n = .non ∨ ∃ i : Nat, flt l ds n = .int (i : Int) ∧ i ≤ n + ds.length
  | [], l, n => by
    unfold flt
    split
    · exact .inr ⟨n, rfl, by omega⟩
    · exact .inl rfl
  | d :: ds, l, n => by
    unfold flt
    split
    · exact .inr ⟨n, rfl, by omega⟩
    · rename_i l' _
      rcases flt_int (ds := ds) (l := l') (n := n + 1) with h | ⟨i, h, hi⟩
      · exact .inl h
      · exact .inr ⟨i, h, by rw [List.length_cons]; omega⟩
theorem wfv_int {ls : List (List Pr)} {e : D} (h : ∀ ds, e = .lst ds → ds.length ≤ 10000) : wfv ls e = .non ∨ ∃ i : Int, wfv ls e = .int i ∧ i.natAbs < 100000 := by
  cases e with
  | lst ds =>
    have := h ds rfl
    rcases flt_int (ds := ds) (l := turnsOf ls) (n := 0) with h | ⟨i, h, hi⟩
    · exact .inl h
    · exact .inr ⟨i, h, by omega⟩
  | _ => exact .inr ⟨-1, rfl, by decide⟩
theorem ok_checkA {CS : Addr} {f f1 : Addr} {fd fd1 : FuncData} {k : Nat} (F : Fun K "check_weaving" "check_weaving" sCheckW f fd) (M : Mg mg) (N : Nw P w K mg base CW k)
    (G1 : FnOk P w K mg base (L2.CX P w) (k + 1) f1 fd1 ["dealings", "thing"] (spWF CS)) (g1 : mg "weaving_fault" = some (.ref f1)) (k1 : PySem.W.keepIn K (.ref f1) = true) (b1 : Binds K fd1 ["dealings", "thing"] []) :
    FnOk P w K mg base (L2.CX P w) (k + 2) f fd ["dealings", "thing"] (spCheckA CS CW) := by
  obtain ⟨fI, fdI, FI, iC, tI, bI⟩ := N.ex
  refine F.okX scCheckW (fun vs H Q E h => ?_) (fun cdv A outer s H vs Q E hr h => ?_)
  · obtain ⟨st, v, u, d, e, rfl, _⟩ := h
    rfl
  · obtain ⟨st, v, u, d, e, rfl, td, te, hl, q1, q2⟩ := h
    refine ⟨_, pss_cons (ps_set (i := 2) scCheckW.nd rfl (.inl rfl) (pe_call (E := E) G1 hr (by rfl) g1 k1 b1 .nil (passes_call (takes_of rfl rfl rfl rfl) (fun _ _ _ _ h => h)) (pa_cons (pv 0) (pa_cons (pv 1) pa_nil))))
      (pss_one (ps_if (pt_cmpR op_notN (pv 2) pe_non (nomark _)) (pss_one (ps_raise rfl (takes_of rfl rfl rfl rfl) (pmk_oex N.T iC tI FI hr bI .nil pass0 (by rfl) N.g (pa_cons (pv 2) pa_nil)))) pss_nil)), ?_⟩
    refine ⟨v, rfl, u, rfl, st, v, u, d, e, rfl, td, te, hl, q1, fun ls el are H1 s1 => ?_⟩
    obtain ⟨qa, qb⟩ := q2 ls el are
    rcases wfv_int (ls := ls) hl with hw | ⟨i, hw, hi⟩
    · rw [hw]
      exact ⟨_, rfl, rfl, _, rfl, iteF (qa hw _ s1)⟩
    · rw [hw]
      refine ⟨_, rfl, rfl, _, rfl, iteT ⟨.int i, rfl, by show 1 ≤ 1000; omega, fun a na => ?_⟩⟩
      refine ⟨a, i, rfl, hi, upd_same, fun d nd dne => ⟨rfl, d, [("place", .int i)], upd_same, ?_, ?_, ?_⟩⟩
      · rw [upd_ne dne, upd_same]
      · rw [upd_ne dne] at nd
        exact nd
      · rw [upd_ne dne] at nd
        refine qb i hw d _ (fun b o hb => ?_) (Same.free s1 nd) upd_same
        have h1 := s1 _ _ hb
        have nba : b ≠ a := ne_of_none h1 na
        have nbd : b ≠ d := ne_of_none h1 nd
        rw [upd_ne nbd, del_ne nba, upd_ne nba, upd_ne nbd, upd_ne nba]
        exact h1
theorem flt_back : ∀ {ds : List D} {ts : List Nat} {n : Nat}, flt (ts.map fun (t : Nat) => (t : Int)) ds n = .non → ∃ wv : List Nat, ds = wv.map (fun (k : Nat) => D.int (k : Int)) ∧ isW ts wv
  | [], ts, n, h => by
    refine ⟨[], rfl, ?_⟩
    show ts.sum = 0
    unfold flt at h
    by_cases z : ((ts.map fun (t : Nat) => (t : Int)).any fun z => decide (0 < z)) = true
    · rw [if_pos z] at h
      cases h
    · have z' : ∀ t ∈ ts, t = 0 := fun t ht => by
        by_cases z2 : t = 0
        · exact z2
        · exact absurd (List.any_eq_true.mpr ⟨(t : Int), List.mem_map.mpr ⟨t, ht, rfl⟩, decide_eq_true (by omega)⟩) z
      clear h z
      induction ts with
      | nil => rfl
      | cons t ts ih =>
        rw [List.sum_cons, z' t (List.mem_cons_self ..), ih fun t ht => z' t (List.mem_cons_of_mem _ ht)]
  | d :: ds, ts, n, h => by
    unfold flt at h
    cases hs : stepF (ts.map fun (t : Nat) => (t : Int)) d with
    | none =>
      rw [hs] at h
      cases h
    | some l =>
      rw [hs] at h
      cases hn : numB d (ts.map fun (t : Nat) => (t : Int)).length with
      | false =>
        rw [stepF_no hn] at hs
        cases hs
      | true =>
        obtain ⟨j, rfl, hj⟩ := num_of hn
        rw [stepF_at hj, List.getElem_map] at hs
        rw [List.length_map] at hj
        by_cases z : ((ts[j] : Nat) : Int) = 0
        · rw [if_pos z] at hs
          cases hs
        · rw [if_neg z] at hs
          have e : l = (dec ts j).map fun (t : Nat) => (t : Int) := by
            rw [← Option.some.inj hs]
            unfold dec
            rw [List.map_set, getD_at hj]
            congr 1
            omega
          rw [e] at h
          obtain ⟨wv, rfl, hw⟩ := flt_back h
          exact ⟨j :: wv, rfl, by rw [getD_at hj]; omega, hw⟩
theorem wfv_non {ls : List (List Pr)} {e : D} (h : wfv ls e = .non) : ∃ wv, e = wD wv ∧ isW (tnOf ls) wv := by
  cases e with
  | lst ds =>
    have h' : flt (turnsOf ls) ds 0 = .non := h
    rw [turns_tn] at h'
    obtain ⟨wv, rfl, hw⟩ := flt_back h'
    exact ⟨wv, rfl, hw⟩
  | _ => cases h
end
end As

namespace As
open PySem PySem.Spec PyProof.Rows L2
section
variable {P : Program} {w : World} {K : PySem.W.Frag} {mg : Str → Option Value} {base : Heap} {CA CS CN CW : Addr}
/-! ### number_of, of anything -/
def spNumA (CS CW : Addr) : Sp := fun vs H Q E => ∃ (st : Addr) (v u : V) (d e : D), vs = [v, u] ∧ TD st H v d ∧ TD st H u e ∧ (∀ ds, e = .lst ds → ds.length ≤ 10000) ∧ (areDealings d = false → ∀ H', Same H H' → E (.ref CS) none H') ∧
  ∀ ls, d = dsD ls → areDealings d = true → (∀ wv, e = wD wv → isW (tnOf ls) wv → ∀ H', Same H H' → Q (.int (rank (tnOf ls) wv : Nat)) H') ∧ (∀ i : Int, wfv ls e = .int i → ∀ dd H', Same H H' → H dd = none → H' dd = some (.xd [("place", .int i)]) → E (.ref CW) (some dd) H')
theorem ok_numA {f f1 f2 f3 : Addr} {fd fd1 fd2 fd3 : FuncData} {k : Nat} (F : Fun K "number_of" "number_of" sNum f fd) (M : Mg mg)
    (G1 : FnOk P w K mg base (L2.CX P w) k f1 fd1 ["dealings", "thing"] (spCheckA CS CW)) (g1 : mg "check_weaving" = some (.ref f1)) (k1 : PySem.W.keepIn K (.ref f1) = true) (b1 : Binds K fd1 ["dealings", "thing"] [])
    (G2 : FnOk P w K mg base CX0 k f2 fd2 ["dealings"] spTurns) (g2 : mg "turns_of" = some (.ref f2)) (k2 : PySem.W.keepIn K (.ref f2) = true) (b2 : Binds K fd2 ["dealings"] [])
    (G3 : FnOk P w K mg base (L2.CX P w) k f3 fd3 ["dealings"] (spHow CS)) (g3 : mg "how_many" = some (.ref f3)) (k3 : PySem.W.keepIn K (.ref f3) = true) (b3 : Binds K fd3 ["dealings"] []) :
    FnOk P w K mg base (L2.CX P w) (k + 1) f fd ["dealings", "weaving"] (spNumA CS CW) := by
  refine F.okX scNum (fun vs H Q E h => ?_) (fun cdv A outer s H vs Q E hr h => ?_)
  · obtain ⟨st, v, u, d, e, rfl, _⟩ := h
    rfl
  · obtain ⟨st, v, u, d, e, rfl, td, te, hl, q1, q2⟩ := h
    refine ⟨_, pss_cons (ps_expr (pe_call (E := E) G1 hr (by rfl) g1 k1 b1 .nil (passes_call (takes_of rfl rfl rfl rfl) (fun _ _ _ _ h => h)) (pa_cons (pv 0) (pa_cons (pv 1) pa_nil))))
      (PSs.nox (pss_cons (ps_set (i := 2) scNum.nd rfl (.inl rfl) (pe_call G2 hr (by rfl) g2 k2 b2 .nil pass0 (pa_cons (pv 0) pa_nil)))
      (pss_cons (ps_set (i := 3) scNum.nd rfl (.inl rfl) (pe_call (E := E0) G3 hr (by rfl) g3 k3 b3 .nil passX0 (pa_cons (pv 0) pa_nil)))
      (pss_cons (ps_set (i := 4) scNum.nd rfl (.inl rfl) pe_int)
      (pss_cons (ps_for PassesOwn.never rfl (pi_list (pv 1)) (pg_name (i := 5) scNum.nd rfl (.inl rfl))
        (pss_cons (ps_set (i := 6) scNum.nd rfl (.inl rfl) (pe_callB (cr_sum rfl) (by rfl) M.sum (by decide +kernel) (pa_cons (pv 2) pa_nil)))
        (pss_cons (ps_aug (i := 4) scNum.nd rfl (.inl rfl) (pe_op op_fdiv (pe_op op_mul (pv 3) (pe_callB (cr_sum rfl) (by rfl) M.sum (by decide +kernel) (pa_cons (pe_slice sl_list (pv 2) po_none (po_some (pv 5))) pa_nil))) (pv 6)) ip_add)
        (pss_cons (ps_set (i := 3) scNum.nd rfl (.inl rfl) (pe_op op_fdiv (pe_op op_mul (pv 3) (pe_ix ix_list (pv 2) (pv 5) (fun _ _ => rfl))) (pv 6)))
        (pss_one (ps_augS (pv 2) (pv 5) as_getL pe_int ip_sub set_list))))))
      (pss_one (ps_ret (pv 4)))))))), ?_⟩
    refine ⟨v, rfl, u, rfl, st, v, u, d, e, rfl, td, te, hl, q1, fun ls el are => ⟨fun hwn H1 s1 => ?_, (q2 ls el are).2⟩⟩
    obtain ⟨wv, rfl, hw⟩ := wfv_non hwn
    have q := (q2 ls el are).1 wv rfl hw
    subst el
    have tu := te
    obtain ⟨ls', e, okl, n1, n100⟩ := dealings_of are
    have e' := dsD_inj e
    subst e'
    obtain ⟨b, rfl, nb, hb⟩ := wD_V tu
    refine ⟨v, rfl, st, v, ls, rfl, td.mono (.of s1), by omega, fun tp H2 ntp s2 ht => ?_⟩
    rw [turns_tn, ← iv_int] at ht
    have s02 := Same.trans s1 s2
    have ntpH : H tp = none := Same.free s1 ntp
    refine ⟨v, rfl, st, v, dsD ls, rfl, td.mono (.of s02), fun hf => (Bool.false_ne_true (hf.symm.trans are)).elim, fun ls' el _ H3 s3 => ?_⟩
    have el' := dsD_inj el
    subst el'
    have s03 := Same.trans s02 s3
    refine ⟨.ref b, rfl, b, rfl, ⟨_, SqL.of (s03 _ _ hb)⟩, ?_⟩
    refine for_list (xs := iv wv) (fun i σ H' => ∃ (lf : List Nat) (m : Nat) (y5 y6 : Option V), σ = [some v, some (.ref b), some (.ref tp), some (.int (rows 0 lf : Nat)), some (.int (m : Nat)), y5, y6] ∧ Same H H' ∧ H' tp = some (.lst (iv lf)) ∧ lf.length = ls.length ∧ (∀ t ∈ lf, t ≤ 9) ∧ isW lf (wv.drop i) ∧ rank (tnOf ls) wv = m + rank lf (wv.drop i))
      ⟨tnOf ls, 0, none, none, rfl, s03, s3 _ _ ht, tn_len ls, tn9 okl, hw, by rw [List.drop_zero, Nat.zero_add]⟩ (fun i σ H' _ hP => ?_) (fun i x σ H4 hx hP => ?_) (fun σ H4 hP => ?_)
    · obtain ⟨_, _, _, _, _, e, _⟩ := hP
      exact SqL.of (e _ _ hb)
    · obtain ⟨lf, m, y5, y6, rfl, e4, ht4, hll, h9, hwi, hrk⟩ := hP
      have hil : i < wv.length := by
        have := (List.getElem?_eq_some_iff.mp hx).1
        rw [iv_len] at this
        exact this
      rw [iv_get hil] at hx
      have ex : V.int (wv[i] : Nat) = x := Option.some.inj hx
      subst ex
      have edr : wv.drop i = wv[i] :: wv.drop (i + 1) := List.drop_eq_getElem_cons hil
      obtain ⟨j, hj⟩ : ∃ j, wv[i] = j := ⟨_, rfl⟩
      rw [hj] at edr
      rw [edr] at hwi hrk
      rw [hj]
      obtain ⟨hpos, hwd⟩ := hwi
      have hjl := getD_lt hpos
      have hds := dec_sum lf j hpos
      have hs0 : 0 < lf.sum := by omega
      have hs900 : lf.sum ≤ 900 := by
        have := sum_le h9
        omega
      have hat : (iv lf)[j]? = some (.int (lf[j] : Nat)) := iv_get hjl
      refine ⟨.ref tp, rfl, tp, _, rfl, SqL.of (by rw [← iv_int]; exact ht4), ?_⟩
      rw [sum_cast]
      refine ⟨.int (m : Nat), rfl, .int (rows 0 lf : Nat), rfl, .ref tp, rfl, .int (j : Nat), rfl, _, rfl, tp, _, rfl, SqL.of ht4, fun c nc => ?_⟩
      rw [cut_to, iv_take]
      have s5 := same_new (o := .lst (iv (lf.take j))) nc
      have htk : (lf.take j).sum ≤ 900 := by
        have := sum_le (ts := lf.take j) (m := 9) fun t ht => h9 t (List.mem_of_mem_take ht)
        have h2 : (lf.take j).length ≤ 100 := by rw [List.length_take]; omega
        omega
      refine ⟨c, _, rfl, SqL.of (by rw [← iv_int]; exact upd_same), ?_⟩
      rw [sum_cast]
      refine ⟨_, _, rfl, rfl, .inr ⟨by omega, by omega⟩, .int (lf.sum : Nat), rfl, _, _, rfl, rfl, ⟨by omega, by omega⟩, _, _, rfl, rfl, ?_⟩
      have e1 : ((rows 0 lf : Nat) : Int) * ((lf.take j).sum : Nat) / (lf.sum : Nat) = ((pre lf j : Nat) : Int) := by
        rw [← Int.natCast_mul, ← Int.natCast_ediv, begin_ahead lf j hs0]
        rfl
      rw [e1]
      have ht5 := s5 _ _ ht4
      refine ⟨.int (rows 0 lf : Nat), rfl, .ref tp, rfl, .int (j : Nat), rfl, tp, _, j, .int (lf[j] : Nat), rfl, rfl, SqL.of ht5, atI_nat hat, _, _, rfl, rfl, .inr ⟨by omega, by have := h9 _ (List.getElem_mem hjl); omega⟩, .int (lf.sum : Nat), rfl, _, _, rfl, rfl, ⟨by omega, by omega⟩, ?_⟩
      have e2 : ((rows 0 lf : Nat) : Int) * (lf[j] : Nat) / (lf.sum : Nat) = ((rows 0 (dec lf j) : Nat) : Int) := by
        rw [← Int.natCast_mul, ← Int.natCast_ediv, ← getD_at hjl, rows_shareD hpos]
      dsimp only
      rw [e2]
      refine ⟨.ref tp, rfl, .int (j : Nat), rfl, tp, _, j, .int (lf[j] : Nat), rfl, rfl, SqL.of ht5, hat, _, 1, rfl, rfl, tp, _, j, j, rfl, rfl, ht5, ?_, ?_⟩
      · unfold ixN
        rw [if_pos (by omega), if_pos (by rw [iv_len]; omega), Int.toNat_natCast]
      · refine ⟨dec lf j, m + pre lf j, some (.int (j : Int)), some (.int (lf.sum : Nat)), ?_, Same.mut (Same.trans e4 s5) ntpH, ?_, by rw [dec_len]; exact hll, dec_le h9 j, hwd, ?_⟩
        · show [some v, some (V.ref b), some (V.ref tp), some (V.int ((rows 0 (dec lf j) : Nat) : Int)), some (V.int (((m : Nat) : Int) + ((pre lf j : Nat) : Int))), _, _] = _
          rw [← Int.natCast_add]
        · rw [upd_same]
          congr 2
          rw [getD_at hjl] at hpos
          dsimp only
          rw [show ((lf[j] : Nat) : Int) - 1 = ((lf[j] - 1 : Nat) : Int) by omega, iv_set]
          unfold dec
          rw [getD_at hjl]
        · rw [hrk]
          show m + (pre lf j + rank (dec lf j) (wv.drop (i + 1))) = _
          omega
    · obtain ⟨lf, m, y5, y6, rfl, e4, ht4, hll, h9, hwi, hrk⟩ := hP
      rw [iv_len, List.drop_length] at hrk
      have e5 : rank (tnOf ls) wv = m := hrk
      refine ⟨_, rfl, ?_⟩
      rw [← e5]
      exact q _ e4
end
end As

namespace As
open PySem PySem.Spec PyProof.Rows L2
abbrev sPlace : Stmt := topS 37
theorem scPlace : FnScope ["_law_e"] ["_law_e"] (defScope sPlace) := ⟨rfl, rfl, rfl, by decide +kernel, rfl, by decide +kernel, by decide +kernel⟩
/-- an error's class beside the others -/
structure KiW (K : PySem.W.Frag) (C CA CS CW CO CN : Addr) (bS bW : Bool) : Prop where
  eA : PySem.W.exmOne K (.ref C) (.ref CA) = some true
  eC : ExcC K C
  iS : PySem.W.kitOne K (.ref C) (.ref CS) = some bS
  iW : PySem.W.kitOne K (.ref C) (.ref CW) = some bW
  iO : PySem.W.kitOne K (.ref C) (.ref CO) = some false
  iN : PySem.W.kitOne K (.ref C) (.ref CN) = some false
  iV : PySem.W.kitOne K (.ref C) (.type "ValueError") = some true
def pDueV (z : Str) (v : V) (H : Hp) (Q : VK) : Prop := ∀ p H', H p = none → Same H H' → H' p = some (.tup [.str z, v]) → Q (.ref p) H'
def ErrW (CS CW : Addr) (Q : VK) : XK := fun cls d H' => (d = none ∧ cls = .ref CS ∧ pDueV "dealings" .non H' Q) ∨ (cls = .ref CW ∧ ∃ (dd : Addr) (i : Int), d = some dd ∧ H' dd = some (.xd [("place", .int i)]) ∧ pDueV "weaving" (.int i) H' Q)
/-- what the asker of a lambda makes of it -/
def TTw (CS CW : Addr) : (XK → Hp → VK → Prop) → Hp → VK → Prop := fun tl H Q => tl (ErrW CS CW Q) H (fun v H1 => [V.str "told", v].length ≤ sizeLine ∧ ∀ p, H1 p = none → Q (.ref p) (upd H1 p (.tup [.str "told", v])))
/-- _law_place(_law_e) -/
def tPl (a dd : Addr) (te : TE) : TE := fun σ H Q => tCons te tNil σ H fun vs H1 => ∃ i, vs = [.ref a] ∧ H1 dd = some (.xd [("place", .int i)]) ∧ Q (.int i) H1
theorem pe_place {X : Cx} {a dd CW f : Addr} {oe : Obj} {kV dc pm cd ct oc : Value} {an od : Option Addr} {sl : Array (Option Value)} {e : Expr} {te : TE} {p pos : Pos} (M : Mg X.mg) (T : XfC X.K CW) (hno : PySem.W.findIn X.K (.ref CW) "place" = some none) (hz : Zc (.ref CW) (some dd) oe) (hf : ∃ vs, oe.data = .fields vs) (hp : (a, oe) ∈ X.pn) (hdp : X.A.depth < recursionLimit)
    (lk : X.K.lookup f = some ⟨oc, od, .func (PySem.W.fnOf "_law_place" "_law_place" (defArgs sPlace) (defBody sPlace) (defScope sPlace) .none kV dc pm an cd ct), sl⟩) (hcd : PySem.W.codeIn X.K cd "_law_place" = true) (hg : Gl X "_law_place") (hm : X.mg "_law_place" = some (.ref f)) (hk : PySem.W.keepIn X.K (.ref f) = true)
    (hb : Binds X.K (PySem.W.fnOf "_law_place" "_law_place" (defArgs sPlace) (defBody sPlace) (defScope sPlace) .none kV dc pm an cd ct) ["_law_e"] []) (he : PE X e te) (hs : starEach [e] X.env = [(false, eval e X.env)] := by rfl) :
    PE X (.Call (.Name "_law_place" p) [e] [] pos) (tPl a dd te) := by
  refine ⟨fun pins s σ H Q I h => wpAny_Call_Name_kw (ld_glob I hg hm ?_)⟩
  refine PySem.W.callWith_K (h₀ := X.base) I.ok.mod.kin hk (thn ((pa_cons he pa_nil hs).run pos pins s σ H (fun vs H1 => ∃ i, vs = [.ref a] ∧ H1 dd = some (.xd [("place", .int i)]) ∧ Q (.int i) H1) I ?_) fun us s1 ⟨vs, H1, I1, r, i, ev, hx, q⟩ => ⟨I1.kIn, ?_⟩) hs rfl
  · exact h
  · subst ev
    refine run_fnP (p := (a, oe)) lk hcd scPlace hb hdp hp rfl I1 r ⟨_, pss_cons (ps_if (pt_val (pe_callB call_isi (by rfl) M.isinstance (by decide +kernel) (pa_cons (pe_xp T hno hz hf (List.mem_singleton.mpr rfl) (pv 0)) (pa_cons (pe_bltn (v := .ty "bool") (by rfl) M.bool (by decide +kernel) rfl) pa_nil)))) (pss_one (ps_ret pe_non)) pss_nil)
      (pss_one (ps_ret (pe_xp T hno hz hf (List.mem_singleton.mpr rfl) (pv 0)))), ?_⟩
    have tdi : TD (st := a) H1 (.int i) (.int i) := .int i
    refine ⟨.ref a, rfl, rfl, _, .int i, hx, rfl, .int i, .ty "bool", _, _, _, rfl, .ty _, tdi.ty, kit_ty (kit_bool _), _, rfl, iteF ?_⟩
    exact ⟨.ref a, rfl, rfl, _, .int i, hx, rfl, q⟩
theorem told_gives16 {X : Cx} {CA CS CW CO CN fP : Addr} {k : Nat} {kV dc pm cd ct oc : Value} {an od : Option Addr} {sl : Array (Option Value)} (hr : Room (k + 1) X.A) (T : Tl X.K X.mg CA CS CW CO CN) (KS : KiW X.K CS CA CS CW CO CN true false) (KW : KiW X.K CW CA CS CW CO CN false true) (M : Mg X.mg)
    (TX : XfC X.K CW) (hno : PySem.W.findIn X.K (.ref CW) "place" = some none)
    (lk : X.K.lookup fP = some ⟨oc, od, .func (PySem.W.fnOf "_law_place" "_law_place" (defArgs sPlace) (defBody sPlace) (defScope sPlace) .none kV dc pm an cd ct), sl⟩) (hcd : PySem.W.codeIn X.K cd "_law_place" = true) (hm : X.mg "_law_place" = some (.ref fP)) (hk : PySem.W.keepIn X.K (.ref fP) = true)
    (hb : Binds X.K (PySem.W.fnOf "_law_place" "_law_place" (defArgs sPlace) (defBody sPlace) (defScope sPlace) .none kV dc pm an cd ct) ["_law_e"] []) {g : Addr} {cdg : Value} {q : Str} :
    LamX.GivesTo X nTold "_law_told" (defScope sTold) g cdg (defBody sTold) "_law_ask" q (TTw CS CW) := by
  intro f c' s H Q tl act hc h
  refine ⟨_, pss_one (ps_try_as (i := 1) (c := .ref CA)
      (tb := fun W D σ H => ∃ Ech : XK, (∀ cls d σ' H', Ech cls d H' → W cls d σ' H') ∧ σ[0]? = some (some (.ref f)) ∧ H c' = some (LamX.CodeO c' q) ∧ tl Ech H (fun v H1 => [V.str "told", v].length ≤ sizeLine ∧ ∀ p, H1 p = none → D.rt (.ref p) (upd H1 p (.tup [.str "told", v]))))
      (ts := fun a cls d D σ H => ErrW CS CW D.rt cls d H ∧ (σ.length = 3 → σ[1]? = some (some (.ref a))))
      rfl rfl scTold.nd rfl rfl ⟨by rfl, by decide, .inl T.gA⟩ LamX.takes0 (fun W pn xe tk _ => ?_) (fun a oe cls d pn hz hf => ?_)), ?_⟩
  · refine ⟨fun pins s' σ H' D I h' => ?_⟩
    obtain ⟨Ech, hW, h1, h2, h3⟩ := h'
    exact (pss_one (ps_ret (pe_tup (pa_cons pe_str (pa_cons (act W pn xe Ech _ _ tk hW) pa_nil))))).run pins s' σ H' D I ⟨h1, h2, h3⟩
  · refine ⟨fun pins s' σ H' D I h' => ?_⟩
    obtain ⟨h1, h2⟩ := h'
    have hlen : σ.length = 3 := I.len
    have hs1 := h2 hlen
    rcases h1 with ⟨rfl, rfl, hd⟩ | ⟨rfl, dd, i, rfl, hx, hd⟩
    · have isE := call_isP (X := ((cxOf C8.CX0 X.prog X.w X.K X.mg X.base nTold "_law_told" (defScope sTold) g cdg X.A X.stack s H C8.E0).nox).suite a ((a, oe) :: pn)) (a := a) KS.eC hz hf List.mem_cons_self
      refine (pss_cons (ps_set (i := 2) scTold.nd rfl (.inl rfl) (pe_lst (pa_cons (pe_callB isE (by rfl) M.isinstance (by decide +kernel) (pa_cons (pv 1) (pa_cons (pe_glob (v := .ref CS) (by rfl) T.gS rfl) pa_nil)))
        (pa_cons (pe_callB isE (by rfl) M.isinstance (by decide +kernel) (pa_cons (pv 1) (pa_cons (pe_glob (v := .ref CW) (by rfl) T.gW rfl) pa_nil)))
        (pa_cons (pe_callB isE (by rfl) M.isinstance (by decide +kernel) (pa_cons (pv 1) (pa_cons (pe_glob (v := .ref CO) (by rfl) T.gO rfl) pa_nil)))
        (pa_cons (pe_callB isE (by rfl) M.isinstance (by decide +kernel) (pa_cons (pv 1) (pa_cons (pe_glob (v := .ref CN) (by rfl) T.gN rfl) pa_nil))) pa_nil))))))
      (pss_cons (ps_if (PW.pt (pw_or (pt_cmpR op_ne (pe_bm PySem.F.plainAttrs_list PySem.F.slot_list_count PySem.F.type_list_count mt_lcountB (pv 2) (pa_cons pe_bl pa_nil)) pe_int (nomark _))
          (pw_or1 (pt_not (pt_val (pe_callB isE (by rfl) M.isinstance (by decide +kernel) (pa_cons (pv 1) (pa_cons (pe_bltn (v := .ty "ValueError") (by rfl) T.vE (by decide +kernel) rfl) pa_nil)))))))) pss_never pss_nil)
      (pss_cons (ps_if (pt_val (pe_ix ix_list (pv 2) pe_int (fun _ _ => rfl))) pss_never pss_nil)
      (pss_one (ps_ret (pe_tup (pa_cons (pe_ix ix_list (pe_lst (pa_cons pe_str (pa_cons pe_str (pa_cons pe_str (pa_cons pe_str pa_nil))))) (pe_bm PySem.F.plainAttrs_list PySem.F.slot_list_index PySem.F.type_list_index mt_index (pv 2) (pa_cons pe_bl pa_nil)) (fun _ _ => rfl)) (pa_cons pe_non pa_nil)))))))).run pins s' σ H' D I ?_
      match σ, hlen, hs1 with
      | [x0, x1, x2], _, hs1 =>
      have hs1' : x1 = some (.ref a) := Option.some.inj hs1
      subst hs1'
      have hdd : ∀ (G : Hp) (e : Addr), (none : Option Addr) = some e → ∃ fs, G e = some (.xd fs) := fun G e z => by cases z
      refine ⟨.ref a, rfl, .ref CS, .ref CS, true, rfl, hdd _, fun u r => r, KS.iS, .ref a, rfl, .ref CW, .ref CW, false, rfl, hdd _, fun u r => r, KS.iW, .ref a, rfl, .ref CO, .ref CO, false, rfl, hdd _, fun u r => r, KS.iO, .ref a, rfl, .ref CN, .ref CN, false, rfl, hdd _, fun u r => r, KS.iN, by show 4 ≤ sizeLine; decide, fun pm npm => ?_⟩
      have s1 := same_new (o := .lst [.bl true, .bl false, .bl false, .bl false]) npm
      have sM : SqL X.K (upd H' pm (.lst [.bl true, .bl false, .bl false, .bl false])) pm ([true, false, false, false].map V.bl) := SqL.of upd_same
      refine ⟨.ref pm, rfl, .inl ⟨rfl, _, sM⟩, pm, _, true, rfl, rfl, sM, rfl, _, rfl, ?_⟩
      refine iteF ⟨.ref a, rfl, .ty "ValueError", .type "ValueError", true, rfl, hdd _, fun u r => r, KS.iV, _, rfl, iteF ?_⟩
      refine ⟨.ref pm, rfl, pm, _, 1, .bl false, rfl, rfl, sM, rfl, _, rfl, iteF ?_⟩
      refine ⟨by show 4 ≤ sizeLine; decide, fun pw npw => ?_⟩
      have s2 := same_new (o := .lst [.str "dealings", .str "", .str "order", .str "number"]) npw
      refine ⟨.ref pm, rfl, .inl ⟨rfl, _, SqL.of (s2 _ _ upd_same)⟩, pm, _, .bl true, 0, .bl true, rfl, rfl, SqL.of (s2 _ _ upd_same), rfl, rfl, rfl, rfl, fun m z' hm _ => absurd hm (Nat.not_lt_zero _), ?_⟩
      refine ⟨pw, _, 0, .str "dealings", rfl, rfl, SqL.of upd_same, rfl, by show 2 ≤ sizeLine; decide, fun pt npt => ?_⟩
      have s12 := Same.trans s1 s2
      exact hd pt _ (Same.free s12 npt) (Same.new s12 npt) upd_same
    · have isE := call_isP (X := ((cxOf C8.CX0 X.prog X.w X.K X.mg X.base nTold "_law_told" (defScope sTold) g cdg X.A X.stack s H C8.E0).nox).suite a ((a, oe) :: pn)) (a := a) KW.eC hz hf List.mem_cons_self
      refine (pss_cons (ps_set (i := 2) scTold.nd rfl (.inl rfl) (pe_lst (pa_cons (pe_callB isE (by rfl) M.isinstance (by decide +kernel) (pa_cons (pv 1) (pa_cons (pe_glob (v := .ref CS) (by rfl) T.gS rfl) pa_nil)))
        (pa_cons (pe_callB isE (by rfl) M.isinstance (by decide +kernel) (pa_cons (pv 1) (pa_cons (pe_glob (v := .ref CW) (by rfl) T.gW rfl) pa_nil)))
        (pa_cons (pe_callB isE (by rfl) M.isinstance (by decide +kernel) (pa_cons (pv 1) (pa_cons (pe_glob (v := .ref CO) (by rfl) T.gO rfl) pa_nil)))
        (pa_cons (pe_callB isE (by rfl) M.isinstance (by decide +kernel) (pa_cons (pv 1) (pa_cons (pe_glob (v := .ref CN) (by rfl) T.gN rfl) pa_nil))) pa_nil))))))
      (pss_cons (ps_if (PW.pt (pw_or (pt_cmpR op_ne (pe_bm PySem.F.plainAttrs_list PySem.F.slot_list_count PySem.F.type_list_count mt_lcountB (pv 2) (pa_cons pe_bl pa_nil)) pe_int (nomark _))
          (pw_or1 (pt_not (pt_val (pe_callB isE (by rfl) M.isinstance (by decide +kernel) (pa_cons (pv 1) (pa_cons (pe_bltn (v := .ty "ValueError") (by rfl) T.vE (by decide +kernel) rfl) pa_nil)))))))) pss_never pss_nil)
      (pss_cons (ps_if (pt_val (pe_ix ix_list (pv 2) pe_int (fun _ _ => rfl))) (pss_one (ps_ret (pe_tup (pa_cons pe_str (pa_cons (pe_place (X := ((cxOf C8.CX0 X.prog X.w X.K X.mg X.base nTold "_law_told" (defScope sTold) g cdg X.A X.stack s H C8.E0).nox).suite a ((a, oe) :: pn)) M TX hno hz hf List.mem_cons_self (hr.deeper (envOfC "_law_told" (defScope sTold) s.heap.objs.size g cdg)).depth lk hcd (by rfl) hm hk hb (pv 1)) pa_nil))))) pss_nil)
      pss_never))).run pins s' σ H' D I ?_
      match σ, hlen, hs1 with
      | [x0, x1, x2], _, hs1 =>
      have hs1' : x1 = some (.ref a) := Option.some.inj hs1
      subst hs1'
      have hdd : ∀ e, some dd = some e → ∃ fs, H' e = some (.xd fs) := fun e z => by cases z; exact ⟨_, hx⟩
      refine ⟨.ref a, rfl, .ref CS, .ref CS, false, rfl, hdd, fun u r => r, KW.iS, .ref a, rfl, .ref CW, .ref CW, true, rfl, hdd, fun u r => r, KW.iW, .ref a, rfl, .ref CO, .ref CO, false, rfl, hdd, fun u r => r, KW.iO, .ref a, rfl, .ref CN, .ref CN, false, rfl, hdd, fun u r => r, KW.iN, by show 4 ≤ sizeLine; decide, fun pm npm => ?_⟩
      have s1 := same_new (o := .lst [.bl false, .bl true, .bl false, .bl false]) npm
      have hx1 := s1 _ _ hx
      have hdd1 : ∀ e, some dd = some e → ∃ fs, (upd H' pm (.lst [.bl false, .bl true, .bl false, .bl false])) e = some (.xd fs) := fun e z => by cases z; exact ⟨_, hx1⟩
      have sM : SqL X.K (upd H' pm (.lst [.bl false, .bl true, .bl false, .bl false])) pm ([false, true, false, false].map V.bl) := SqL.of upd_same
      refine ⟨.ref pm, rfl, .inl ⟨rfl, _, sM⟩, pm, _, true, rfl, rfl, sM, rfl, _, rfl, ?_⟩
      refine iteF ⟨.ref a, rfl, .ty "ValueError", .type "ValueError", true, rfl, hdd1, fun u r => r, KW.iV, _, rfl, iteF ?_⟩
      refine ⟨.ref pm, rfl, pm, _, 1, .bl true, rfl, rfl, sM, rfl, _, rfl, iteT ?_⟩
      refine ⟨.ref a, rfl, i, rfl, hx1, by show 2 ≤ sizeLine; decide, fun pt npt => ?_⟩
      exact hd pt _ (Same.free s1 npt) (Same.new s1 npt) upd_same
  · refine ⟨ErrW CS CW Q, fun cls d σ' H' hE => ?_, rfl, hc, h⟩
    have hb : PySem.W.exmOne X.K cls (.ref CA) = some true := by
      rcases hE with ⟨_, rfl, _⟩ | ⟨rfl, _⟩
      · exact KS.eA
      · exact KW.eA
    refine ⟨true, hb, fun _ a na => ⟨hE, fun hl => ?_⟩, fun z => absurd z.symm Bool.false_ne_true⟩
    rw [List.length_set] at hl
    exact List.getElem?_set_self (by omega)
end As

namespace As
open PySem PySem.Spec PyProof.Rows L2
/-! ### the greatest of a dict's values -/
theorem as_vals {kvs : List (Key × V)} {vs : List (_ × Value)} {zs : List Int} (rel : KV kvs vs) (hv : kvs.map (·.2) = zs.map V.int) :
    vs.length = zs.length ∧ ∀ (m : Nat) (x : Value), (∃ q, vs[m]? = some (q, x)) → ∃ t, x = Value.int (zs.getD m 0) t := by
  constructor
  · have a := congrArg List.length hv
    rw [List.length_map, List.length_map] at a
    exact (KV.length rel).symm.trans a
  · rintro m x ⟨q, hq⟩
    obtain ⟨y, a1, a2⟩ := KV.at' rel hq
    have a3 : (kvs.map (·.2))[m]? = some y := by rw [List.getElem?_map, a1]; rfl
    rw [hv, List.getElem?_map] at a3
    obtain ⟨c, hc, a4⟩ := Option.map_eq_some_iff.mp a3
    rw [← a4] at a2
    obtain ⟨t, a5⟩ := a2
    exact ⟨t, by rw [a5, List.getD_eq_getElem?_getD, hc]; rfl⟩
def tMaxVals (td : TE) : TE := fun σ H Q => td σ H fun x H1 => ∃ b kvs zs, x = V.ref b ∧ H1 b = some (.dK kvs) ∧ kvs.map (·.2) = zs.map V.int ∧ zs ≠ [] ∧ ∀ m, m ∈ zs → (∀ y, y ∈ zs → y ≤ m) → Q (.int m) H1
theorem pe_maxVals {X : Cx} {o : Expr} {p pos ap mp : Pos} {td : TE} (hc : X.calm = true) (hg : Gl X "max") (hm : X.mg "max" = none) (hd : PE X o td) (hb0 : attributeBase o "values" X.env (eval o X.env) = eval o X.env := by rfl) (hl0 : (ap.endLine == mp.line) = true := by rfl)
    (hs0 : starEach [Expr.Call (.Attribute o "values" ap) [] [] mp] X.env = [(false, eval (Expr.Call (.Attribute o "values" ap) [] [] mp) X.env)] := by rfl) :
    PE X (.Call (.Name "max" p) [.Call (.Attribute o "values" ap) [] [] mp] [] pos) (tMaxVals td) := by
  refine ⟨fun pn s σ H Q I hq => ?_⟩
  refine wpAny_Call_Name_kw (ld_blt I hg hm (u := .builtin "max") (by decide +kernel) ?_ (by decide +kernel) (by decide +kernel))
  rw [hs0]
  refine PySem.callWith_builtin1 (wpAny_Call_method0_late hb0 hl0 (thn (hd.run pn s σ H _ I hq) fun v s1 got => ?_))
  obtain ⟨x, H1, I1, r1, b, kvs, zs, ex, hb, hv, hne, q⟩ := got
  subst ex
  cases (show v = Value.ref b from r1)
  obtain ⟨_, hsys, vs, rel, dof⟩ := dk_of I1.hok hb
  obtain ⟨ep, dat⟩ := dof.dictAt
  obtain ⟨ob, es, hob, hex, _⟩ := id dat
  refine ⟨"dict", "dict.values", F.plainAttrs_dict, F.slot_dict_values, F.type_dict_values, ⟨ob, hob, hex.1⟩, fun c ec => ?_, Calls.callWith_builtin rfl (PySem.evalArgs_none ?_)⟩
  · have ec' := Value.ref.inj ec
    subst ec'
    exact ⟨ob, hob, hex.2.1⟩
  refine call_meetsIn F.slot_dict_values ⟨ob, hob, hex.1⟩ F.entry_dict_values (F.args_dict_values_1 _) (meets_dict_values (mixKind X.prog X.w) b hsys) ⟨⟨vs, dof⟩, ?_⟩
  let hp1 := s1.heap.push { cls := .type "dict_values", data := .fields #[.ref b] }
  have up : ∀ c u, s1.heap.get? c = some u → hp1.get? c = some u := fun c u e => Heap.get?_push_of_some _ e
  have dat1 : hp1.DictAt (mixKind X.prog X.w) b vs ep := dat.keep up
  obtain ⟨hlv, hval⟩ := as_vals rel hv
  have hpos : 0 < vs.length := by
    rw [hlv]
    exact List.length_pos_iff.mpr hne
  have hlt : b < s1.heap.objs.size := Heap.lt_size hob
  have hsz : hp1.objs.size = s1.heap.objs.size + 1 := Heap.size_push _ _
  refine call_max_walk (wpAny_pyIter_values (v := s1.heap.objs.size) (d := b) ⟨_, Heap.get?_push_size _ rfl, rfl, rfl⟩ dat1 ?_)
  refine ⟨_, _, _, _, _, _, _, rfl, Walks.dictValues (knd := mixKind X.prog X.w) (A := X.A.in1) (I.ok.hd hc) hp1.objs.size b (by rw [hsz]; exact Nat.ne_of_lt (Nat.lt_succ_of_lt hlt)) vs ep, ⟨⟨_, Heap.get?_push_size _ rfl, rfl, rfl⟩, dat1.keep fun c u e => Heap.get?_push_of_some _ e⟩, fun c hcm => ?_, hpos, CmpOf.ints_gt (fun m => zs.getD m 0) hval, fun x h' tk hP hk => ?_⟩
  · show c < (hp1.push _).objs.size
    rw [Heap.size_push, hsz]
    rcases List.mem_cons.mp hcm with e | e
    · rw [e, hsz]
      exact Nat.lt_succ_self _
    · rw [List.mem_singleton.mp e]
      exact Nat.lt_succ_of_lt (Nat.lt_succ_of_lt hlt)
  · obtain ⟨t, rfl⟩ := hval _ x hP
    obtain ⟨c1, c2⟩ := argBest_gt (fun m => zs.getD m 0) (vs.length - 1)
    refine ⟨.int _, H1, I1.kept (t' := tk) fun c u e => hk c u (fun hmem => ?_) (Heap.get?_push_of_some _ (up c u e)), ⟨t, rfl⟩, q _ ?_ fun y hy => ?_⟩
    · have a1 : c = hp1.objs.size := List.mem_singleton.mp hmem
      have a2 := Heap.lt_size e
      rw [a1, hsz] at a2
      exact absurd a2 (Nat.not_lt.mpr (Nat.le_succ _))
    · have hbl : argBest (fun i j => decide (zs.getD i 0 > zs.getD j 0)) (vs.length - 1) < zs.length := by omega
      rw [List.getD_eq_getElem?_getD, List.getElem?_eq_getElem hbl]
      exact List.getElem_mem hbl
    · obtain ⟨m, hml, e⟩ := List.mem_iff_getElem.mp hy
      have e2 : zs.getD m 0 = y := by
        rw [List.getD_eq_getElem?_getD, List.getElem?_eq_getElem hml, ← e]
        rfl
      rw [← e2]
      exact c2 m (by omega)
end As

namespace As
open PySem PySem.Spec PyProof.Rows L2
/-! ### a dict of the turns that are left -/
def kvOf : Int → List Int → List (Key × V)
  | _, [] => []
  | o, z :: l => (.inl o, .int z) :: kvOf (o + 1) l
theorem kvOf_len : ∀ (o : Int) (l : List Int), (kvOf o l).length = l.length
  | _, [] => rfl
  | o, z :: l => congrArg (· + 1) (kvOf_len (o + 1) l)
theorem kvOf_snd : ∀ (o : Int) (l : List Int), (kvOf o l).map (·.2) = l.map V.int
  | _, [] => rfl
  | o, z :: l => congrArg (V.int z :: ·) (kvOf_snd (o + 1) l)
theorem kvOf_none : ∀ (o : Int) (l : List Int) (i : Int), ¬ (o ≤ i ∧ i < o + l.length) → valV (kvOf o l) (.inl i) = none
  | _, [], _, _ => rfl
  | o, z :: l, i, h => by
    rw [List.length_cons] at h
    show valV ((.inl o, .int z) :: kvOf (o + 1) l) (.inl i) = none
    rw [valV_neg (fun e => h (by
      have e' : o = i := Sum.inl.inj e
      omega))]
    exact kvOf_none (o + 1) l i (by omega)
theorem kvOf_val : ∀ (o : Int) (l : List Int) (j : Nat) (h : j < l.length), valV (kvOf o l) (.inl (o + j)) = some (.int l[j])
  | _, [], _, h => absurd h (Nat.not_lt_zero _)
  | o, z :: l, 0, _ => by
    show valV ((.inl o, .int z) :: kvOf (o + 1) l) _ = some (.int z)
    rw [valV_pos (by show Sum.inl o = Sum.inl (o + ((0 : Nat) : Int)); congr 1; omega)]
  | o, z :: l, j + 1, h => by
    show valV ((.inl o, .int z) :: kvOf (o + 1) l) _ = some (.int (l[j]'(Nat.lt_of_succ_lt_succ h)))
    rw [valV_neg (fun e => by
      have e' : o = o + ((j + 1 : Nat) : Int) := Sum.inl.inj e
      omega), show o + ((j + 1 : Nat) : Int) = o + 1 + (j : Int) by omega]
    exact kvOf_val (o + 1) l j (Nat.lt_of_succ_lt_succ h)
theorem kvOf_app : ∀ (o : Int) (l : List Int) (z : Int), kvOf o l ++ [(.inl (o + l.length), .int z)] = kvOf o (l ++ [z])
  | o, [], z => by
    show [(Sum.inl (o + ((0 : Nat) : Int)), V.int z)] = [(.inl o, .int z)]
    rw [show o + ((0 : Nat) : Int) = o by omega]
  | o, y :: l, z => by
    show (.inl o, .int y) :: (kvOf (o + 1) l ++ [(.inl (o + ((l.length + 1 : Nat) : Int)), .int z)]) = (.inl o, .int y) :: kvOf (o + 1) (l ++ [z])
    rw [show o + ((l.length + 1 : Nat) : Int) = o + 1 + (l.length : Int) by omega, kvOf_app (o + 1) l z]
theorem kvOf_put (l : List Int) (z : Int) : putK (kvOf 0 l) (.inl (l.length : Int)) (.int z) = kvOf 0 (l ++ [z]) := by
  unfold putK
  rw [valV_any, kvOf_none 0 l _ (by omega), if_neg (by simp)]
  have := kvOf_app 0 l z
  rw [Int.zero_add] at this
  exact this
theorem kvOf_map : ∀ (o : Int) (l : List Int) (j : Nat) (z : Int), j < l.length → (kvOf o l).map (fun kv => if kv.1 = Sum.inl (o + (j : Int)) then (kv.1, V.int z) else kv) = kvOf o (l.set j z)
  | _, [], _, _, h => absurd h (Nat.not_lt_zero _)
  | o, y :: l, 0, z, _ => by
    show (if (Sum.inl o : Key) = Sum.inl (o + ((0 : Nat) : Int)) then _ else _) :: (kvOf (o + 1) l).map _ = (.inl o, .int z) :: kvOf (o + 1) l
    rw [if_pos (by congr 1; omega)]
    congr 1
    have : ∀ (q : Int) (l : List Int), o < q → (kvOf q l).map (fun kv => if kv.1 = Sum.inl (o + ((0 : Nat) : Int)) then (kv.1, V.int z) else kv) = kvOf q l := by
      intro q l
      induction l generalizing q with
      | nil => intro _; rfl
      | cons a l ih =>
        intro hq
        show (if (Sum.inl q : Key) = Sum.inl (o + ((0 : Nat) : Int)) then _ else _) :: (kvOf (q + 1) l).map _ = (.inl q, .int a) :: kvOf (q + 1) l
        rw [if_neg (fun e => by
          have e' := Sum.inl.inj e
          omega), ih (q + 1) (by omega)]
    exact this (o + 1) l (by omega)
  | o, y :: l, j + 1, z, h => by
    show (if (Sum.inl o : Key) = Sum.inl (o + ((j + 1 : Nat) : Int)) then _ else _) :: (kvOf (o + 1) l).map _ = (.inl o, .int y) :: kvOf (o + 1) (l.set j z)
    rw [if_neg (fun e => by
      have e' := Sum.inl.inj e
      omega), show o + ((j + 1 : Nat) : Int) = o + 1 + (j : Int) by omega, kvOf_map (o + 1) l j z (Nat.lt_of_succ_lt_succ h)]
theorem kvOf_set (l : List Int) (j : Nat) (z : Int) (h : j < l.length) : putK (kvOf 0 l) (.inl (j : Int)) (.int z) = kvOf 0 (l.set j z) := by
  have e := kvOf_val 0 l j h
  rw [Int.zero_add] at e
  unfold putK
  rw [valV_any, e, if_pos (show (some (V.int l[j])).isSome = true from rfl)]
  have := kvOf_map 0 l j z h
  rw [Int.zero_add] at this
  exact this
abbrev sFault : Stmt := topS 38
abbrev nFault : List Str := ["_law_dealings_here", "_law_thing", "_law_left", "_law_number", "_law_dealing_here", "_law_place_here", "_law_one_here"]
theorem scFault : FnScope nFault ["_law_dealings_here", "_law_thing"] (defScope sFault) := ⟨rfl, rfl, rfl, by decide +kernel, rfl, by decide +kernel, by decide +kernel⟩
section
variable {P : Program} {w : World} {K : PySem.W.Frag} {mg : Str → Option Value} {base : Heap}
def spFault : Sp := fun vs H Q _ => ∃ (st : Addr) (v u : V) (ls : List (List Pr)) (ds : List D), vs = [v, u] ∧ TD st H v (dsD ls) ∧ TD st H u (.lst ds) ∧ 1 ≤ ls.length ∧ ls.length ≤ 100 ∧ ds.length ≤ 10000 ∧ ∀ H', Same H H' → Q (flt (turnsOf ls) ds 0) H'
theorem ok_fault {f : Addr} {fd : FuncData} {k : Nat} (F : Fun K "_law_fault" "_law_fault" sFault f fd) (M : Mg mg) : FnOk P w K mg base CX0 (k + 1) f fd ["_law_dealings_here", "_law_thing"] spFault := by
  refine F.ok scFault (fun vs H Q E h => ?_) (fun cdv A outer s H vs Q E hr h => ?_)
  · obtain ⟨st, v, u, ls, ds, rfl, _⟩ := h
    rfl
  · obtain ⟨st, v, u, ls, ds, rfl, td, te, n1, n100, d2000, q⟩ := h
    have hu1 : (A.deeper (envOfC "_law_fault" (defScope sFault) s.heap.objs.size f cdv)).units + 1 < cLine := by have := hr.un; omega
    refine ⟨_, pss_cons (ps_set (i := 2) scFault.nd rfl (.inl rfl) pe_dnewK)
      (pss_cons (ps_for PassesOwn.never rfl (pi_enum (by rfl) M.enumerate (pa_cons (pv 0) pa_nil)) (pg_tup rfl (pgs_cons (pg_name (i := 3) scFault.nd rfl (.inl rfl)) (pgs_cons (pg_name (i := 4) scFault.nd rfl (.inl rfl)) pgs_nil)))
        (pss_one (ps_asg (pe_add (pe_callB call_len_seq (by rfl) M.len PySem.boot_len (pa_cons (pv 4) pa_nil)) pe_int) (pg_sub (pv 2) (pv 3) (set_dict hu1)))))
      (pss_cons (ps_for PassesOwn.never rfl (pi_enum (by rfl) M.enumerate (pa_cons (pv 1) pa_nil)) (pg_tup rfl (pgs_cons (pg_name (i := 5) scFault.nd rfl (.inl rfl)) (pgs_cons (pg_name (i := 6) scFault.nd rfl (.inl rfl)) pgs_nil)))
        (pss_cons (ps_if (PW.pt (pw_or (pt_not (pt_val (pe_callB call_isi (by rfl) M.isinstance (by decide +kernel) (pa_cons (pv 6) (pa_cons (pe_bltn (v := .ty "int") (by rfl) M.int (by decide +kernel) rfl) pa_nil))))) (pw_or (pt_val (pe_callB call_isi (by rfl) M.isinstance (by decide +kernel) (pa_cons (pv 6) (pa_cons (pe_bltn (v := .ty "bool") (by rfl) M.bool (by decide +kernel) rfl) pa_nil))))
            (pw_or1 (pt_cmpR op_eq (pe_dget2 hu1 (pv 2) (pv 6) pe_int ⟨rfl, by rfl, rfl, rfl⟩) pe_int (nomark _)))))) (pss_one (ps_ret (pv 5))) pss_nil)
        (pss_one (ps_asg (pe_sub (pe_dget hu1 (pv 2) (pv 6) (fun _ _ => rfl)) pe_int) (pg_sub (pv 2) (pv 6) (set_dict hu1))))))
      (pss_one (ps_ret (pe_ifExp (pt_cmpR op_gt (pe_maxVals rfl (by rfl) M.max (pv 2)) pe_int (nomark _)) (pe_callB call_len_seq (by rfl) M.len PySem.boot_len (pa_cons (pv 1) pa_nil)) pe_non))))), ?_⟩
    cases td with
    | @lst a xs _ na ha ta =>
    cases te with
    | @lst b ys _ nb hb tb =>
    have hla : xs.length = ls.length := by rw [ta.length, List.length_map]
    have hlb := tb.length
    intro dl ndl
    have s0 := same_new (o := .dK []) ndl
    refine ⟨.ref a, rfl, a, xs, rfl, SqL.of (s0 _ _ ha), for_it (walk_enum (xs := xs)) (fun i σ H' => ∃ y3 y4, σ = [some (.ref a), some (.ref b), some (.ref dl), y3, y4, none, none] ∧ Same H H' ∧ H' dl = some (.dK (kvOf 0 ((turnsOf ls).take i)))) ⟨none, none, rfl, s0, by rw [List.take_zero]; exact upd_same⟩ (fun i σ H' hi hP => ?_) (fun i x σ H4 H5 hi hP y => ?_) (fun σ H4 hP => ?_)⟩
    · obtain ⟨_, _, _, e, _⟩ := hP
      exact SqL.of (e _ _ ha)
    · obtain ⟨y3, y4, rfl, e4, hd4⟩ := hP
      obtain ⟨T, x1, x2, rfl, nT, rfl, ex1, hx2⟩ := y
      have ex1' : x1 = .int (i : Nat) := (Option.some.inj ex1).symm
      subst ex1'
      obtain ⟨di, hdi, tdi⟩ := ta.get hx2
      have hil : i < ls.length := by omega
      have edi : di = dlD ls[i] := by
        rw [List.getElem?_map, List.getElem?_eq_getElem hil] at hdi
        exact (Option.some.inj hdi).symm
      subst edi
      have e5 : Same H (upd H4 T (.tup [.int (i : Nat), x2])) := Same.new e4 nT
      have hd5 : (upd H4 T (.tup [.int (i : Nat), x2])) dl = some (.dK (kvOf 0 ((turnsOf ls).take i))) := same_new nT _ _ hd4
      have tdi5 := tdi.mono (.of (st := st) e5)
      cases tdi5 with
      | @tup c zs _ nc hc tc =>
      have hzl : zs.length = ls[i].length := by rw [tc.length, List.length_map]
      have htl : (turnsOf ls).length = ls.length := by unfold turnsOf; rw [List.length_map]
      have hti : ((turnsOf ls).take i).length = i := by rw [List.length_take, htl]; omega
      refine ⟨T, [.int (i : Nat), .ref c], rfl, SqT.of upd_same, rfl, .int (i : Nat), [.ref c], rfl, .ref c, [], rfl, rfl, .ref c, rfl, c, zs, rfl, .inr (SqT.of hc), _, 1, rfl, rfl, .ref dl, rfl, .int (i : Nat), rfl, dl, _, rfl, DPut.k (k := .inl (i : Int)) hd5 (by rw [kvOf_len, hti]; exact sl_lt (by omega)), ?_⟩
      refine ⟨_, _, rfl, Same.mut e5 ndl, ?_⟩
      rw [upd_same, hzl]
      have e9 := kvOf_put ((turnsOf ls).take i) ((ls[i].length : Int) + 1)
      rw [hti] at e9
      rw [e9]
      have e10 : (turnsOf ls).take (i + 1) = (turnsOf ls).take i ++ [(ls[i].length : Int) + 1] := by
        rw [List.take_add_one, List.getElem?_eq_getElem (by omega)]
        unfold turnsOf
        rw [List.getElem_map]
        rfl
      rw [e10]
    obtain ⟨y3, y4, rfl, e4, hd4⟩ := hP
    have htl : (turnsOf ls).length = ls.length := by unfold turnsOf; rw [List.length_map]
    rw [hla, ← htl, List.take_length] at hd4
    refine ⟨.ref b, rfl, b, ys, rfl, SqL.of (e4 _ _ hb), for_it (walk_enum (xs := ys)) (fun i σ H' => ∃ y5 y6 left, σ = [some (.ref a), some (.ref b), some (.ref dl), y3, y4, y5, y6] ∧ Same H H' ∧ H' dl = some (.dK (kvOf 0 left)) ∧ left.length = ls.length ∧ flt (turnsOf ls) ds 0 = flt left (ds.drop i) i)
      ⟨none, none, turnsOf ls, rfl, e4, hd4, htl, by rw [List.drop_zero]⟩ (fun i σ H' hi hP => ?_) (fun i x σ H5 H6 hi hP y => ?_) (fun σ H5 hP => ?_)⟩
    · obtain ⟨_, _, _, _, e, _⟩ := hP
      exact SqL.of (e _ _ hb)
    · obtain ⟨y5, y6, left, rfl, e5, hd5, hll, hfl⟩ := hP
      obtain ⟨T, x1, x2, rfl, nT, rfl, ex1, hx2⟩ := y
      have ex1' : x1 = .int (i : Nat) := (Option.some.inj ex1).symm
      subst ex1'
      obtain ⟨di, hdi, tdi⟩ := tb.get hx2
      have hid : i < ds.length := by omega
      have edr : ds.drop i = di :: ds.drop (i + 1) := by
        rw [List.drop_eq_getElem_cons hid]
        rw [List.getElem?_eq_getElem hid] at hdi
        rw [Option.some.inj hdi]
      have e6 : Same H (upd H5 T (.tup [.int (i : Nat), x2])) := Same.new e5 nT
      have hd6 : (upd H5 T (.tup [.int (i : Nat), x2])) dl = some (.dK (kvOf 0 left)) := same_new nT _ _ hd5
      have tdi6 := tdi.mono (.of (st := st) e6)
      have bad : stepF left di = none → ∀ H', Same H H' → Q (.int (i : Nat)) H' := fun e H' e' => by
        have r := q H' e'
        rw [hfl, edr] at r
        unfold flt at r
        rw [e] at r
        exact r
      refine ⟨T, [.int (i : Nat), x2], rfl, SqT.of upd_same, rfl, .int (i : Nat), [x2], rfl, x2, [], rfl, rfl, x2, rfl, x2, .ty "int", _, _, _, rfl, .ty _, tdi6.ty, kit_ty (kit_int di), _, rfl, ?_⟩
      cases tdi with
      | int z =>
        refine iteF ⟨.int z, rfl, .int z, .ty "bool", _, _, _, rfl, .ty _, tdi6.ty, kit_ty (kit_bool _), _, rfl, iteF ?_⟩
        by_cases hin : 0 ≤ z ∧ z < left.length
        · obtain ⟨j, rfl⟩ : ∃ j : Nat, z = (j : Int) := ⟨z.toNat, by omega⟩
          have hj : j < left.length := by omega
          have ev := kvOf_val 0 left j hj
          rw [Int.zero_add] at ev
          refine ⟨.ref dl, rfl, dl, rfl, .inl ⟨_, .inl hd6⟩, .int j, rfl, some (.int left[j]), .inl ⟨_, .inl (j : Int), .inl hd6, rfl, ev.symm⟩, rfl, _, rfl, ?_⟩
          show if decide (V.int left[j] = V.int 0) = true then _ else _
          by_cases z0 : left[j] = 0
          · rw [z0, show decide (V.int 0 = V.int 0) = true from decide_eq_true rfl]
            exact iteT ⟨.int (i : Nat), rfl, bad (by rw [stepF_at hj, if_pos z0]) _ e6⟩
          · rw [show decide (V.int left[j] = V.int 0) = false from decide_eq_false fun c => z0 (V.int.inj c)]
            refine iteF ⟨.ref dl, rfl, .int j, rfl, dl, .int left[j], rfl, .inl ⟨_, .inl (j : Int), .inl hd6, rfl, ev.symm⟩, left[j], 1, rfl, rfl, .ref dl, rfl, .int j, rfl, dl, _, rfl, DPut.k (k := .inl (j : Int)) hd6 (by rw [kvOf_len]; exact sl_lt (by omega)), ?_⟩
            refine ⟨_, _, left.set j (left[j] - 1), rfl, Same.mut e6 ndl, ?_, by rw [List.length_set]; exact hll, ?_⟩
            · rw [upd_same, kvOf_set left j _ hj]
            · rw [hfl, edr]
              show (match stepF left (.int (j : Int)) with | none => V.int i | some l => flt l (ds.drop (i + 1)) (i + 1)) = _
              rw [stepF_at hj, if_neg z0]
        · have ev := kvOf_none 0 left z (by omega)
          refine ⟨.ref dl, rfl, dl, rfl, .inl ⟨_, .inl hd6⟩, .int z, rfl, none, .inl ⟨_, .inl z, .inl hd6, rfl, ev.symm⟩, rfl, _, rfl, ?_⟩
          show if decide (V.int 0 = V.int 0) = true then _ else _
          rw [show decide (V.int 0 = V.int 0) = true from decide_eq_true rfl]
          refine iteT ⟨.int (i : Nat), rfl, bad (stepF_no ?_) _ e6⟩
          show (decide (0 ≤ z) && decide (z < (left.length : Int))) = false
          rw [Bool.and_eq_false_iff, decide_eq_false_iff_not, decide_eq_false_iff_not]
          omega
      | bl z => exact iteF ⟨.bl z, rfl, .bl z, .ty "bool", _, _, _, rfl, .ty _, tdi6.ty, kit_ty (kit_bool _), _, rfl, iteT (iteT ⟨.int (i : Nat), rfl, bad rfl _ e6⟩)⟩
      | _ => exact iteT (iteT ⟨.int (i : Nat), rfl, bad rfl _ e6⟩)
    · obtain ⟨y5, y6, left, rfl, e5, hd5, hll, hfl⟩ := hP
      rw [hlb, List.drop_length] at hfl
      have r := q _ e5
      rw [hfl] at r
      unfold flt at r
      refine ⟨.ref dl, rfl, dl, _, left, rfl, hd5, kvOf_snd 0 left, (fun z => by rw [z] at hll; have : 0 = ls.length := hll; omega), fun m hm hmx => ⟨m, 0, rfl, rfl, _, rfl, ?_⟩⟩
      rw [max_pos hm hmx]
      cases hany : left.any (fun z => decide (0 < z)) with
      | true =>
        rw [hany, if_pos rfl] at r
        refine iteT ⟨.ref b, rfl, b, ys, rfl, .inl (SqL.of (e5 _ _ hb)), ?_⟩
        rw [hlb]
        exact r
      | false =>
        rw [hany, if_neg Bool.false_ne_true] at r
        exact iteF r
end
end As

namespace As
/-! ### the row behind a row; rows as lists go: Nat alone -/
theorem isW_count : ∀ {w ts : List Nat}, isW ts w → ∀ k, w.count k = ts.getD k 0
  | [], ts, h, k => by
    rw [sum_zero_get h k]
    rfl
  | j :: w, ts, h, k => by
    have ih := isW_count h.2 k
    have hj := getD_lt h.1
    unfold dec at ih
    rw [getD_set ts j k _ hj] at ih
    rw [List.count_cons, ih]
    have h1 := h.1
    by_cases e : k = j
    · subst e
      rw [if_pos rfl, if_pos (beq_self_eq_true k)]
      omega
    · rw [if_neg e, if_neg (fun z => e (eq_of_beq z).symm)]
      rfl
theorem isW_of : ∀ {w ts : List Nat}, (∀ k, w.count k = ts.getD k 0) → isW ts w
  | [], ts, h => by
    show ts.sum = 0
    apply Nat.eq_zero_of_not_pos
    intro z
    obtain ⟨k, hk⟩ := sum_pos_get z
    have := h k
    rw [List.count_nil] at this
    omega
  | j :: w, ts, h => by
    have hj : 0 < ts.getD j 0 := by
      have := h j
      rw [List.count_cons_self] at this
      omega
    refine ⟨hj, isW_of fun k => ?_⟩
    have hk := h k
    unfold dec
    rw [getD_set ts j k _ (getD_lt hj)]
    rw [List.count_cons] at hk
    by_cases e : k = j
    · subst e
      rw [if_pos (beq_self_eq_true k)] at hk
      rw [if_pos rfl]
      omega
    · rw [if_neg (fun z => e (eq_of_beq z).symm)] at hk
      rw [if_neg e]
      exact hk
theorem isW_perm {ts w v : List Nat} (h : isW ts w) (p : w.Perm v) : isW ts v := isW_of fun k => by rw [← p.count_eq, isW_count h]
theorem pre_gap {ts : List Nat} {a : Nat} : ∀ {b : Nat}, a ≤ b → (∀ k, a ≤ k → k < b → ts.getD k 0 = 0) → pre ts b = pre ts a
  | 0, h, _ => by
    have : a = 0 := by omega
    rw [this]
  | b + 1, h, hz => by
    by_cases e : a = b + 1
    · rw [e]
    · have ih := pre_gap (ts := ts) (a := a) (b := b) (by omega) fun k h1 h2 => hz k h1 (by omega)
      have hb : begin_ ts b = 0 := if_neg (by have := hz b (by omega) (by omega); omega)
      rw [pre_next, ih, hb]
      rfl
theorem count_zero {w : List Nat} {k : Nat} (h : k ∉ w) : w.count k = 0 := List.count_eq_zero.mpr h
theorem rank_up : ∀ {w ts : List Nat}, isW ts w → w.Pairwise (· ≤ ·) → rank ts w = 0
  | [], _, _, _ => rfl
  | k :: w, ts, h, hs => by
    rw [List.pairwise_cons] at hs
    have h1 := rank_up h.2 hs.2
    have h2 : pre ts k = pre ts 0 := pre_gap (Nat.zero_le _) fun j _ hj => by
      rw [← isW_count h j]
      refine count_zero fun z => ?_
      rcases List.mem_cons.mp z with z | z
      · omega
      · have := hs.1 j z
        omega
    show pre ts k + rank (dec ts k) w = 0
    rw [h1, h2]
    rfl
theorem rank_down : ∀ {w ts : List Nat}, isW ts w → w.Pairwise (· ≥ ·) → rank ts w + 1 = rows 0 ts
  | [], ts, h, _ => by
    rw [rows_zero h]
    rfl
  | k :: w, ts, h, hs => by
    rw [List.pairwise_cons] at hs
    have h1 := rank_down h.2 hs.2
    have hk := getD_lt h.1
    have hsum : 0 < ts.sum := by have := dec_sum ts k h.1; omega
    have h2 : pre ts ts.length = pre ts (k + 1) := pre_gap hk fun j hj _ => by
      rw [← isW_count h j]
      refine count_zero fun z => ?_
      rcases List.mem_cons.mp z with z | z
      · omega
      · have := hs.1 j z
        omega
    rw [pre_all ts hsum, pre_next] at h2
    have hb : begin_ ts k = rows 0 (dec ts k) := if_pos h.1
    show pre ts k + rank (dec ts k) w + 1 = _
    omega
theorem rank_next : ∀ {u ts : List Nat} {x o : Nat} {d s : List Nat}, isW ts (u ++ x :: d) → d.Pairwise (· ≥ ·) → s.Pairwise (· ≤ ·) → (o :: s).Perm (x :: d) → x < o → (∀ k ∈ d, x < k → o ≤ k) → isW ts (u ++ o :: s) ∧ rank ts (u ++ o :: s) = rank ts (u ++ x :: d) + 1
  | [], ts, x, o, d, s, h, hd, hs, hp, hxo, hg => by
    have h' : isW ts (x :: d) := h
    have ho : isW ts (o :: s) := isW_perm h' hp.symm
    have h1 := rank_down h'.2 hd
    have h2 := rank_up ho.2 hs
    have hb : begin_ ts x = rows 0 (dec ts x) := if_pos h'.1
    have h3 : pre ts o = pre ts (x + 1) := pre_gap hxo fun j hj1 hj2 => by
      rw [← isW_count h' j]
      refine count_zero fun z => ?_
      rcases List.mem_cons.mp z with z | z
      · omega
      · have := hg j z (by omega)
        omega
    rw [pre_next] at h3
    refine ⟨ho, ?_⟩
    show pre ts o + rank (dec ts o) s = pre ts x + rank (dec ts x) d + 1
    omega
  | k :: u, ts, x, o, d, s, h, hd, hs, hp, hxo, hg => by
    obtain ⟨h1, h2⟩ := rank_next (u := u) (ts := dec ts k) h.2 hd hs hp hxo hg
    refine ⟨⟨h.1, h1⟩, ?_⟩
    show pre ts k + rank (dec ts k) (u ++ o :: s) = pre ts k + rank (dec ts k) (u ++ x :: d) + 1
    omega
/-! ### as lists go -/
def lexN : List Nat → List Nat → Bool
  | [], [] => false
  | [], _ :: _ => true
  | _ :: _, [] => false
  | x :: xs, y :: ys => if x = y then lexN xs ys else decide (x < y)
theorem rank_lex : ∀ {a b ts : List Nat}, isW ts a → isW ts b → decide (rank ts a < rank ts b) = lexN a b
  | [], [], _, _, _ => decide_eq_false (Nat.lt_irrefl _)
  | [], k :: b, ts, h1, h2 => by
    have h3 := dec_sum ts k h2.1
    have h4 : ts.sum = 0 := h1
    omega
  | k :: a, [], ts, h1, h2 => by
    have h3 := dec_sum ts k h1.1
    have h4 : ts.sum = 0 := h2
    omega
  | j :: a, k :: b, ts, h1, h2 => by
    show _ = if j = k then lexN a b else decide (j < k)
    by_cases e : j = k
    · subst e
      rw [if_pos rfl, ← rank_lex h1.2 h2.2]
      refine decide_eq_decide.mpr ?_
      show pre ts j + _ < pre ts j + _ ↔ _
      omega
    · rw [if_neg e]
      rcases Nat.lt_or_gt_of_ne e with h | h
      · rw [decide_eq_true h]
        exact decide_eq_true (rank_less h1 h2 h)
      · have := rank_less h2 h1 h
        rw [decide_eq_false (show ¬ rank ts (j :: a) < rank ts (k :: b) by omega), decide_eq_false (show ¬ j < k by omega)]
/-! ### all turns in a row -/
def fullTo (ts : List Nat) (i : Nat) : List Nat := (List.range i).flatMap fun k => List.replicate (ts.getD k 0) k
theorem fullTo_next (ts : List Nat) (i : Nat) : fullTo ts (i + 1) = fullTo ts i ++ List.replicate (ts.getD i 0) i := by
  unfold fullTo
  rw [List.range_succ, List.flatMap_append]
  simp
theorem fullTo_count (ts : List Nat) (k : Nat) : ∀ i, (fullTo ts i).count k = if k < i then ts.getD k 0 else 0
  | 0 => by simp [fullTo]
  | i + 1 => by
    rw [fullTo_next, List.count_append, fullTo_count ts k i, List.count_replicate]
    by_cases h1 : k < i
    · rw [if_pos h1, if_neg (fun z => by have := eq_of_beq z; omega), if_pos (show k < i + 1 by omega)]
      rfl
    · rw [if_neg h1]
      by_cases h2 : k = i
      · subst h2
        rw [if_pos (beq_self_eq_true k), if_pos (show k < k + 1 by omega), Nat.zero_add]
      · rw [if_neg (fun z => h2 (eq_of_beq z).symm), if_neg (show ¬ k < i + 1 by omega)]
theorem full_isW (ts : List Nat) : isW ts (fullTo ts ts.length) := isW_of fun k => by
  rw [fullTo_count]
  by_cases h : k < ts.length
  · rw [if_pos h]
  · rw [if_neg h, List.getD_eq_getElem?_getD, List.getElem?_eq_none (by omega)]
    rfl
theorem fullTo_len {ts : List Nat} {m : Nat} (h : ∀ t ∈ ts, t ≤ m) : ∀ i, (fullTo ts i).length ≤ m * i
  | 0 => Nat.le_refl _
  | i + 1 => by
    have ih := fullTo_len h i
    rw [fullTo_next, List.length_append, List.length_replicate, Nat.mul_add, Nat.mul_one]
    have : ts.getD i 0 ≤ m := by
      rw [List.getD_eq_getElem?_getD]
      by_cases hi : i < ts.length
      · rw [List.getElem?_eq_getElem hi]
        exact h _ (List.getElem_mem hi)
      · rw [List.getElem?_eq_none (by omega)]
        exact Nat.zero_le _
    omega
end As

namespace As
open PySem PySem.Spec PyProof.Rows L2
theorem erase_permN : ∀ {l : List Nat} {i : Nat} (h : i < l.length), (l[i] :: l.eraseIdx i).Perm l
  | _ :: l, 0, _ => .refl _
  | a :: l, i + 1, h => by
    have ih := erase_permN (l := l) (i := i) (Nat.lt_of_succ_lt_succ h)
    have hi : i < l.length := Nat.lt_of_succ_lt_succ h
    show (l[i] :: a :: l.eraseIdx i).Perm (a :: l)
    exact (List.Perm.swap ..).trans (ih.cons a)
theorem iv_erase (l : List Nat) (i : Nat) : (iv l).eraseIdx i = iv (l.eraseIdx i) := by
  unfold iv
  induction l generalizing i with
  | nil => rfl
  | cons a l ih =>
    cases i with
    | zero => rfl
    | succ i =>
      show _ :: (l.map _).eraseIdx i = _ :: (l.eraseIdx i).map _
      rw [ih i]
abbrev sWeav : Stmt := topS 35
abbrev nWeav : List Str := ["_law_well_here", "_law_dealings_here", "_law_left", "_law_number", "_law_dealing_here", "_law_found"]
theorem scWeav : FnScope nWeav ["_law_well_here", "_law_dealings_here"] (defScope sWeav) := ⟨rfl, rfl, rfl, by decide +kernel, rfl, by decide +kernel, by decide +kernel⟩
theorem rep_iv (n i : Nat) : (List.replicate n [V.int (i : Int)]).flatten = iv (List.replicate n i) := by
  induction n with
  | zero => rfl
  | succ n ih =>
    rw [List.replicate_succ, List.flatten_cons, ih, List.replicate_succ]
    rfl
theorem iv_app (a b : List Nat) : iv a ++ iv b = iv (a ++ b) := by
  unfold iv
  rw [List.map_append]
section
variable {P : Program} {w : World} {K : PySem.W.Frag} {mg : Str → Option Value} {base : Heap}
def spWeav : Sp := fun vs H Q _ => ∃ (st : Addr) (v : V) (ls : List (List Pr)), vs = [.ref st, v] ∧ Well st H ∧ TD st H v (dsD ls) ∧ ls.length ≤ 100 ∧ (∀ l ∈ ls, okD l) ∧
  ∀ (p : Addr) (wv : List Nat) (H' : Hp), isW (tnOf ls) wv → p ≠ st → H p = none → H' p = some (.lst (iv wv)) → Well st H' → ExS st H H' → Q (.ref p) H'
theorem ok_weav {f f1 : Addr} {fd fd1 : FuncData} {k : Nat} (F : Fun K "_law_weaving" "_law_weaving" sWeav f fd) (M : Mg mg) (G1 : FnOk P w K mg base CX0 k f1 fd1 ["_law_well_here", "_law_many"] spDraw) (g1 : mg "_law_draw" = some (.ref f1)) (k1 : PySem.W.keepIn K (.ref f1) = true) (b1 : Binds K fd1 ["_law_well_here", "_law_many"] []) :
    FnOk P w K mg base CX0 (k + 1) f fd ["_law_well_here", "_law_dealings_here"] spWeav := by
  refine F.ok scWeav (fun vs H Q E h => ?_) (fun cdv A outer s H vs Q E hr h => ?_)
  · obtain ⟨st, v, ls, rfl, _⟩ := h
    rfl
  · obtain ⟨st, v, ls, rfl, hW, td, n100, okl, q⟩ := h
    refine ⟨_, pss_cons (ps_set (i := 2) scWeav.nd rfl (.inl rfl) (pe_lst pa_nil))
      (pss_cons (ps_for PassesOwn.never rfl (pi_enum (by rfl) M.enumerate (pa_cons (pv 1) pa_nil)) (pg_tup rfl (pgs_cons (pg_name (i := 3) scWeav.nd rfl (.inl rfl)) (pgs_cons (pg_name (i := 4) scWeav.nd rfl (.inl rfl)) pgs_nil)))
        (pss_one (ps_set (i := 2) scWeav.nd rfl (.inl rfl) (pe_op op_cat (pv 2) (pe_op op_rep (pe_lst (pa_cons (pv 3) pa_nil)) (pe_add (pe_callB call_len_seq (by rfl) M.len PySem.boot_len (pa_cons (pv 4) pa_nil)) pe_int))))))
      (pss_cons (ps_set (i := 5) scWeav.nd rfl (.inl rfl) (pe_lst pa_nil))
      (pss_cons (ps_while PassesOwn.never (pt_cmpR (op_neD hr.units) (pv 2) (pe_lst pa_nil) (nomark _))
        (pss_one (ps_expr (pe_bm PySem.F.plainAttrs_list PySem.F.slot_list_append PySem.F.type_list_append mt_append (pv 5) (pa_cons (pe_bm PySem.F.plainAttrs_list PySem.F.slot_list_pop PySem.F.type_list_pop mt_popAt (pv 2) (pa_cons (pe_call G1 hr (by rfl) g1 k1 b1 .nil pass0 (pa_cons (pv 0) (pa_cons (pe_callB call_len_seq (by rfl) M.len PySem.boot_len (pa_cons (pv 2) pa_nil)) pa_nil))) pa_nil)) pa_nil)))))
      (pss_one (ps_ret (pv 5)))))), ?_⟩
    cases td with
    | @lst a xs _ na ha ta =>
    have hla : xs.length = ls.length := by rw [ta.length, List.length_map]
    have l8 : ∀ l ∈ ls, l.length ≤ 8 := fun l hl => (okl l hl).2.2.1
    have t9 := tn9 okl
    refine ⟨Nat.zero_le _, fun p0 np0 => ?_⟩
    have s0 := same_new (o := .lst []) np0
    refine ⟨.ref a, rfl, a, xs, rfl, SqL.of (s0 _ _ ha), for_it (walk_enum (xs := xs)) (fun i σ H' => ∃ (pl : Addr) (y3 y4 : Option V), σ = [some (.ref st), some (.ref a), some (.ref pl), y3, y4, none] ∧ Same H H' ∧ H pl = none ∧ H' pl = some (.lst (iv (fullTo (tnOf ls) i)))) ⟨p0, none, none, rfl, s0, np0, upd_same⟩ (fun i σ H' hi hP => ?_) (fun i x σ H4 H5 hi hP y => ?_) (fun σ H4 hP => ?_)⟩
    · obtain ⟨_, _, _, _, e, _⟩ := hP
      exact SqL.of (e _ _ ha)
    · obtain ⟨pl, y3, y4, rfl, e4, npl, hpl⟩ := hP
      have hml := fullTo_len (ts := tnOf ls) (m := 9) t9 i
      obtain ⟨T, x1, x2, rfl, nT, rfl, ex1, hx2⟩ := y
      have ex1' : x1 = .int (i : Nat) := (Option.some.inj ex1).symm
      subst ex1'
      obtain ⟨di, hdi, tdi⟩ := ta.get hx2
      have hil : i < ls.length := by omega
      have edi : di = dlD ls[i] := by
        rw [List.getElem?_map, List.getElem?_eq_getElem hil] at hdi
        exact (Option.some.inj hdi).symm
      subst edi
      have e5 : Same H (upd H4 T (.tup [.int (i : Nat), x2])) := Same.new e4 nT
      have hpl5 : (upd H4 T (.tup [.int (i : Nat), x2])) pl = some (.lst (iv (fullTo (tnOf ls) i))) := same_new nT _ _ hpl
      have tdi5 := tdi.mono (.of (st := st) e5)
      cases tdi5 with
      | @tup c zs _ nc hc tc =>
      have hzl : zs.length = ls[i].length := by rw [tc.length, List.length_map]
      have h8 := l8 _ (List.getElem_mem hil)
      refine ⟨T, [.int (i : Nat), .ref c], rfl, SqT.of upd_same, rfl, .int (i : Nat), [.ref c], rfl, .ref c, [], rfl, rfl, .ref pl, rfl, .int (i : Nat), rfl, by show 1 ≤ sizeLine; decide, fun c1 m1 => ?_⟩
      have t1 := same_new (o := .lst [.int (i : Nat)]) m1
      refine ⟨.ref c, rfl, c, zs, rfl, .inr (SqT.of (t1 _ _ hc)), _, 1, rfl, rfl, ?_⟩
      rw [hzl]
      refine ⟨c1, _, [.int (i : Nat)], rfl, rfl, upd_same, by omega, by omega, sl_of (by show 1 * _ ≤ _; omega), fun c2 m2 => ?_⟩
      have t2 := same_new (o := .lst (List.replicate ((ls[i].length : Int) + 1).toNat [V.int (i : Nat)]).flatten) m2
      have etn : (tnOf ls).getD i 0 = ls[i].length + 1 := by
        unfold tnOf
        rw [List.getD_eq_getElem?_getD, List.getElem?_map, List.getElem?_eq_getElem hil]
        rfl
      have en : ((ls[i].length : Int) + 1).toNat = ls[i].length + 1 := by omega
      refine ⟨pl, c2, _, _, rfl, rfl, t2 _ _ (t1 _ _ hpl5), upd_same, ?_, fun c3 m3 => ?_⟩
      · rw [rep_iv, iv_len, iv_len, List.length_replicate]
        exact sl_of (by omega)
      · have e6 := Same.trans e5 (Same.trans t1 t2)
        refine ⟨c3, _, _, rfl, Same.new e6 m3, Same.free e6 m3, ?_⟩
        rw [upd_same, rep_iv, iv_app, en, fullTo_next, etn]
    obtain ⟨pl, y3, y4, rfl, e4, npl, hpl⟩ := hP
    rw [hla] at hpl
    obtain ⟨ms0, hms0⟩ : ∃ ms0, fullTo (tnOf ls) ls.length = ms0 := ⟨_, rfl⟩
    rw [hms0] at hpl
    have hw0 : isW (tnOf ls) ms0 := by
      have := full_isW (tnOf ls)
      rw [tn_len, hms0] at this
      exact this
    have hm9 : ms0.length ≤ 900 := by
      have := fullTo_len (ts := tnOf ls) (m := 9) t9 ls.length
      rw [hms0] at this
      omega
    have W4 := hW.same e4
    have nls : pl ≠ st := hW.ne npl
    refine ⟨Nat.zero_le _, fun pf npf => ?_⟩
    have s5 := same_new (o := .lst []) npf
    have nfs : pf ≠ st := W4.ne npf
    have nfl : pf ≠ pl := (ne_of_none hpl npf).symm
    have npfH : H pf = none := Same.free e4 npf
    refine ⟨fun mm σ H' => ∃ ms ns : List Nat, mm = ms.length ∧ σ = [some (.ref st), some (.ref a), some (.ref pl), y3, y4, some (.ref pf)] ∧ H' pl = some (.lst (iv ms)) ∧ H' pf = some (.lst (iv ns)) ∧ (ns ++ ms).Perm ms0 ∧ Well st H' ∧ ExS st H H', ⟨_, ms0, [], rfl, rfl, s5 _ _ hpl, upd_same, .refl _, W4.same s5, .of (Same.trans e4 s5)⟩, fun mm σ H6 hP => ?_⟩
    obtain ⟨ms, ns, rfl, rfl, hl, hf, hperm, W6, e6⟩ := hP
    have hlen : ns.length + ms.length ≤ 900 := by
      have := hperm.length_eq
      rw [List.length_append] at this
      omega
    refine ⟨.ref pl, rfl, Nat.zero_le _, fun c nc => ?_⟩
    have s7 := same_new (o := .lst []) nc
    have W7 := W6.same s7
    have hl7 := s7 _ _ hl
    have hf7 := s7 _ _ hf
    refine ⟨.list ((ms.map fun (k : Nat) => (k : Int)).map PyData.int), .list (([] : List Int).map PyData.int), .lst (SqL.of (by rw [← iv_int]; exact hl7)) (dp_ints _), .lst (SqL.of upd_same) (dp_ints []), shaped_ints _, shaped_ints _, _, rfl, ?_⟩
    rw [eqv_ints]
    by_cases hms : ms = []
    · rw [decide_eq_true (show (ms.map fun (k : Nat) => (k : Int)) = [] by rw [hms]; rfl)]
      rw [hms, List.append_nil] at hperm
      refine iteF ⟨.ref pf, rfl, q pf ns _ (isW_perm hw0 hperm.symm) nfs npfH hf7 W7 (e6.trans (.of s7))⟩
    · rw [decide_eq_false (show ¬ (ms.map fun (k : Nat) => (k : Int)) = [] from fun z => hms (List.map_eq_nil_iff.mp z))]
      have hpos : 0 < ms.length := List.length_pos_iff.mpr hms
      refine iteT ⟨fun σ' H' => ∃ ms' ns' : List Nat, ms'.length < ms.length ∧ σ' = [some (.ref st), some (.ref a), some (.ref pl), y3, y4, some (.ref pf)] ∧ H' pl = some (.lst (iv ms')) ∧ H' pf = some (.lst (iv ns')) ∧ (ns' ++ ms').Perm ms0 ∧ Well st H' ∧ ExS st H H', fun σ' H' hN => ?_, ?_⟩
      · obtain ⟨ms', ns', h1, h2⟩ := hN
        exact ⟨_, h1, ms', ns', rfl, h2⟩
      · refine ⟨.ref pf, rfl, .inl ⟨rfl, _, SqL.of hf7⟩, .ref pl, rfl, .inl ⟨rfl, _, SqL.of hl7⟩, .ref st, rfl, .ref pl, rfl, pl, _, rfl, .inl (SqL.of hl7), st, _, rfl, W7, by rw [iv_len]; omega, by rw [iv_len]; omega, fun r H8 r0 r1 W8 e8 => ?_⟩
        rw [iv_len] at r1
        obtain ⟨j, rfl⟩ : ∃ j : Nat, r = (j : Int) := ⟨r.toNat, by omega⟩
        have hj : j < ms.length := by omega
        have hl8 := e8 _ _ nls hl7
        have hf8 := e8 _ _ nfs hf7
        refine ⟨pl, _, j, j, .int (ms[j] : Nat), rfl, rfl, hl8, by omega, by omega, ?_, iv_get hj, ?_⟩
        · rw [iv_len]
          exact seqIndex_of (by omega) (by omega)
        · have hf9 : (upd H8 pl (.lst ((iv ms).eraseIdx j))) pf = some (.lst (iv ns)) := by
            rw [upd_ne nfl]
            exact hf8
          refine ⟨pf, _, _, rfl, rfl, hf9, sl_lt (by rw [iv_len]; omega), ms.eraseIdx j, ns ++ [ms[j]], ?_, rfl, ?_, ?_, ?_, ?_, ?_⟩
          · rw [List.length_eraseIdx_of_lt hj]
            omega
          · rw [upd_ne (Ne.symm nfl), upd_same, iv_erase]
          · rw [upd_same, ← iv_app]
            rfl
          · rw [List.append_assoc]
            exact ((erase_permN hj).append_left ns).trans hperm
          · obtain ⟨a1, b1, c1, h⟩ := W8
            exact ⟨a1, b1, c1, by rw [upd_ne (Ne.symm nfs), upd_ne (Ne.symm nls)]; exact h⟩
          · intro a' u na' ha'
            rw [upd_ne (ne_of_none ha' npfH), upd_ne (ne_of_none ha' npl)]
            exact e8 _ _ na' (s7 _ _ (e6 _ _ na' ha'))
end

end As

namespace As
open PySem PySem.Spec PyProof.Rows L2
mutual
theorem TD.off {o st : Addr} {H : Hp} (n : H o = none) : ∀ {v : V} {d : D}, TD st H v d → TD o H v d
  | _, _, .non => .non
  | _, _, .bl b => .bl b
  | _, _, .int i => .int i
  | _, _, .str z => .str z
  | _, _, .tup _ h t => .tup (ne_of_none h n) h (TDs.off n t)
  | _, _, .lst _ h t => .lst (ne_of_none h n) h (TDs.off n t)
  | _, _, .dct _ h => .dct (ne_of_none h n) h
theorem TDs.off {o st : Addr} {H : Hp} (n : H o = none) : ∀ {vs : List V} {ds : List D}, TDs st H vs ds → TDs o H vs ds
  | _, _, .nil => .nil
  | _, _, .cons h t => .cons (TD.off n h) (TDs.off n t)
end
theorem slM_ok {K : PySem.W.Frag} {st a : Addr} {H : Hp} {ds : List D} {lo hi : Option Int} {Q : VK} (W : Well st H) (ta : TD st H (.ref a) (.lst ds))
    (q : ∀ c H' es, TD st H' (.ref c) (.lst es) → es.length ≤ ds.length → (∀ d ∈ es, d ∈ ds) → Same H H' → Q (.ref c) H') : rSlL K (.ref a) lo hi H Q := by
  cases ta with
  | @lst a xs _ na ha t1 =>
    have l1 := t1.length
    refine ⟨a, xs, rfl, SqL.of ha, fun p np => ?_⟩
    have t2 := (t1.drop (HT.sIx xs.length 0 lo)).take (HT.sIx xs.length xs.length hi - HT.sIx xs.length 0 lo)
    refine q p _ _ (.lst (W.ne np) upd_same (t2.mono (ExS.new np))) ?_ (fun d hd => List.mem_of_mem_drop (List.mem_of_mem_take hd)) (same_new np)
    rw [List.length_take, List.length_drop]
    omega
theorem catM_ok {st a b : Addr} {H : Hp} {ds es : List D} {Q : VK} (W : Well st H) (ta : TD st H (.ref a) (.lst ds)) (tb : TD st H (.ref b) (.lst es)) (hl : ds.length + es.length ≤ 100000)
    (q : ∀ c H', TD st H' (.ref c) (.lst (ds ++ es)) → Same H H' → Q (.ref c) H') : rCat (.ref a) (.ref b) H Q := by
  cases ta with
  | @lst a xs _ na ha t1 =>
    cases tb with
    | @lst b ys _ nb hb t2 =>
      have l1 := t1.length
      have l2 := t2.length
      exact ⟨a, b, xs, ys, rfl, rfl, ha, hb, sl_of (by omega), fun p np => q p _ (.lst (W.ne np) upd_same ((t1.append t2).mono (ExS.new np))) (same_new np)⟩
/-- both: away from the well, and from a list that grows -/
def TD2 (st o : Addr) (H : Hp) (v : V) (d : D) : Prop := TD st H v d ∧ TD o H v d
theorem TD2.same {st o : Addr} {H H' : Hp} {v : V} {d : D} (h : TD2 st o H v d) (s : Same H H') : TD2 st o H' v d := ⟨h.1.mono (.of s), h.2.mono (.of s)⟩
theorem TD2.well {st o : Addr} {H H' : Hp} {v : V} {d : D} (h : TD2 st o H v d) (e : ExS st H H') : TD2 st o H' v d := ⟨h.1.mono e, TD.both e h.1 h.2⟩
theorem TD2.app {st o : Addr} {H : Hp} {v : V} {d : D} {u : HO} (h : TD2 st o H v d) : TD2 st o (upd H o u) v d := ⟨TD.both ExS.at_ h.2 h.1, h.2.mono ExS.at_⟩
theorem sl2_ok {K : PySem.W.Frag} {st o a : Addr} {H : Hp} {ds : List D} {lo hi : Option Int} {Q : VK} (W : Well st H) (ho : ∃ u, H o = some u) (ta : TD2 st o H (.ref a) (.lst ds))
    (q : ∀ c H' es, TD2 st o H' (.ref c) (.lst es) → es.length ≤ ds.length → Same H H' → Q (.ref c) H') : rSlL K (.ref a) lo hi H Q := by
  obtain ⟨t, t'⟩ := ta
  cases t with
  | @lst a xs _ na ha t1 =>
    cases t' with
    | @lst _ ys _ nb hb t2 =>
    rw [ha] at hb
    cases hb
    have l1 := t1.length
    refine ⟨a, xs, rfl, SqL.of ha, fun p np => ?_⟩
    obtain ⟨u, hu⟩ := ho
    have u1 := (t1.drop (HT.sIx xs.length 0 lo)).take (HT.sIx xs.length xs.length hi - HT.sIx xs.length 0 lo)
    have u2 := (t2.drop (HT.sIx xs.length 0 lo)).take (HT.sIx xs.length xs.length hi - HT.sIx xs.length 0 lo)
    refine q p _ _ ⟨.lst (W.ne np) upd_same (u1.mono (ExS.new np)), .lst (ne_of_none hu np).symm upd_same (u2.mono (ExS.new np))⟩ ?_ (same_new np)
    rw [List.length_take, List.length_drop]
    omega
theorem cat2_ok {st o a b : Addr} {H : Hp} {ds es : List D} {Q : VK} (W : Well st H) (ho : ∃ u, H o = some u) (ta : TD2 st o H (.ref a) (.lst ds)) (tb : TD2 st o H (.ref b) (.lst es)) (hl : ds.length + es.length ≤ 100000)
    (q : ∀ c H', TD2 st o H' (.ref c) (.lst (ds ++ es)) → Same H H' → Q (.ref c) H') : rCat (.ref a) (.ref b) H Q := by
  obtain ⟨t, t'⟩ := ta
  obtain ⟨r, r'⟩ := tb
  cases t with
  | @lst a xs _ na ha t1 =>
    cases t' with
    | @lst _ xs' _ na' ha' t1' =>
    rw [ha] at ha'
    cases ha'
    cases r with
    | @lst b ys _ nb hb t2 =>
      cases r' with
      | @lst _ ys' _ nb' hb' t2' =>
      rw [hb] at hb'
      cases hb'
      have l1 := t1.length
      have l2 := t2.length
      obtain ⟨u, hu⟩ := ho
      exact ⟨a, b, xs, ys, rfl, rfl, ha, hb, sl_of (by omega), fun p np => q p _ ⟨.lst (W.ne np) upd_same ((t1.append t2).mono (ExS.new np)), .lst (ne_of_none hu np).symm upd_same ((t1'.append t2').mono (ExS.new np))⟩ (same_new np)⟩
abbrev sSpo : Stmt := topS 39
abbrev nSpo : List Str := ["_law_well_here", "_law_dealings_here", "_law_weaving_here", "_law_place_here", "_law_many", "_law_odd", "_law_some"]
theorem scSpo : FnScope nSpo ["_law_well_here", "_law_dealings_here", "_law_weaving_here"] (defScope sSpo) := ⟨rfl, rfl, rfl, by decide +kernel, rfl, by decide +kernel, by decide +kernel⟩
section
variable {P : Program} {w : World} {K : PySem.W.Frag} {mg : Str → Option Value} {base : Heap}
def spSpo : Sp := fun vs H Q _ => ∃ (st : Addr) (v : V) (pw : Addr) (ls : List (List Pr)) (ds : List D), vs = [.ref st, v, .ref pw] ∧ Well st H ∧ TD st H v (dsD ls) ∧ 1 ≤ ls.length ∧ ls.length ≤ 100 ∧ TD st H (.ref pw) (.lst ds) ∧ 1 ≤ ds.length ∧ ds.length ≤ 3000 ∧
  ∀ p es H', TD st H' (.ref p) (.lst es) → es.length ≤ 3 * ds.length + 1 → Well st H' → ExS st H H' → Q (.ref p) H'
theorem ok_spo {f f1 f2 : Addr} {fd fd1 fd2 : FuncData} {k : Nat} (F : Fun K "_law_spoilt" "_law_spoilt" sSpo f fd) (M : Mg mg) (G1 : FnOk P w K mg base CX0 k f1 fd1 ["_law_well_here", "_law_many"] spDraw) (g1 : mg "_law_draw" = some (.ref f1)) (k1 : PySem.W.keepIn K (.ref f1) = true) (b1 : Binds K fd1 ["_law_well_here", "_law_many"] [])
    (G2 : FnOk P w K mg base CX0 k f2 fd2 ["_law_well_here", "_law_some"] spOne) (g2 : mg "_law_one" = some (.ref f2)) (k2 : PySem.W.keepIn K (.ref f2) = true) (b2 : Binds K fd2 ["_law_well_here", "_law_some"] []) :
    FnOk P w K mg base CX0 (k + 1) f fd ["_law_well_here", "_law_dealings_here", "_law_weaving_here"] spSpo := by
  refine F.ok scSpo (fun vs H Q E h => ?_) (fun cdv A outer s H vs Q E hr h => ?_)
  · obtain ⟨st, v, pw, ls, ds, rfl, _⟩ := h
    rfl
  · obtain ⟨st, v, pw, ls, ds, rfl, hW, td, n1, n100, tw, d1, d3000, q⟩ := h
    refine ⟨_, pss_cons (ps_set (i := 3) scSpo.nd rfl (.inl rfl) (pe_call G1 hr (by rfl) g1 k1 b1 .nil pass0 (pa_cons (pv 0) (pa_cons (pe_callB call_len_seq (by rfl) M.len PySem.boot_len (pa_cons (pv 2) pa_nil)) pa_nil))))
      (pss_cons (ps_set (i := 4) scSpo.nd rfl (.inl rfl) (pe_callB call_len_seq (by rfl) M.len PySem.boot_len (pa_cons (pv 1) pa_nil)))
      (pss_cons (ps_set (i := 5) scSpo.nd rfl (.inl rfl) (pe_call G2 hr (by rfl) g2 k2 b2 .nil pass0 (pa_cons (pv 0) (pa_cons (pe_lst (pa_cons (pe_un un_neg pe_int) (pa_cons (pv 4) (pa_cons pe_bl (pa_cons pe_bl (pa_cons pe_non (pa_cons pe_str (pa_cons (pe_tup (pa_cons pe_int pa_nil)) (pa_cons (pe_op op_pow pe_int pe_int) (pa_cons (pe_lst (pa_cons pe_int pa_nil)) (pa_cons pe_dnewK (pa_cons (pe_un un_neg (pv 4)) pa_nil)))))))))))) pa_nil))))
      (pss_cons (ps_set (i := 6) scSpo.nd rfl (.inl rfl) (pe_lst (pa_cons (pe_op op_cat (pe_op op_cat (pe_slice sl_list (pv 2) po_none (po_some (pv 3))) (pe_lst (pa_cons (pv 5) pa_nil))) (pe_slice sl_list (pv 2) (po_some (pe_add (pv 3) pe_int)) po_none)) (pa_cons (pe_op op_cat (pe_op op_cat (pe_slice sl_list (pv 2) po_none (po_some (pv 3))) (pe_lst (pa_cons (pv 5) pa_nil))) (pe_slice sl_list (pv 2) (po_some (pv 3)) po_none)) pa_nil))))
      (pss_cons (ps_expr (pe_bm PySem.F.plainAttrs_list PySem.F.slot_list_append PySem.F.type_list_append mt_append (pv 6) (pa_cons (pe_op op_cat (pe_slice sl_list (pv 2) po_none (po_some (pv 3))) (pe_slice sl_list (pv 2) (po_some (pe_add (pv 3) pe_int)) po_none)) pa_nil)))
      (pss_cons (ps_expr (pe_bm PySem.F.plainAttrs_list PySem.F.slot_list_append PySem.F.type_list_append mt_append (pv 6) (pa_cons (pe_op op_cat (pe_op op_cat (pe_slice sl_list (pv 2) po_none (po_some (pv 3))) (pe_lst (pa_cons (pe_call G1 hr (by rfl) g1 k1 b1 .nil pass0 (pa_cons (pv 0) (pa_cons (pv 4) pa_nil))) pa_nil))) (pe_slice sl_list (pv 2) (po_some (pv 3)) po_none)) pa_nil)))
      (pss_one (ps_ret (pe_call G2 hr (by rfl) g2 k2 b2 .nil pass0 (pa_cons (pv 0) (pa_cons (pv 6) pa_nil)))))))))), ?_⟩
    have lw : ∃ ys, H pw = some (.lst ys) ∧ ys.length = ds.length := by
      cases tw with
      | lst n h t => exact ⟨_, h, t.length⟩
    obtain ⟨ys, hys, hyl⟩ := lw
    refine ⟨.ref st, rfl, .ref pw, rfl, pw, ys, rfl, .inl (SqL.of hys), st, _, rfl, hW, by omega, by omega, fun r2 H2 r20 r21 W2 e2 => ?_⟩
    have lv : ∃ a xs, v = .ref a ∧ H2 a = some (.lst xs) ∧ xs.length = ls.length := by
      have tv := td.mono e2
      cases tv with
      | lst n h t => exact ⟨_, _, rfl, h, by rw [t.length, List.length_map]⟩
    obtain ⟨a, xs, rfl, hxs, hxl⟩ := lv
    refine ⟨.ref a, rfl, a, xs, rfl, .inl (SqL.of hxs), ?_⟩
    rw [hxl]
    refine ⟨.ref st, rfl, 1, rfl, .int ls.length, rfl, by show 1 ≤ sizeLine; decide, fun c1 m1 => ?_⟩
    have s1 := same_new (o := .tup [.int 0]) m1
    refine ⟨10, 40, rfl, rfl, ⟨by decide, by decide, by decide⟩, by show 1 ≤ sizeLine; decide, fun c2 m2 => ?_⟩
    have s2 := same_new (o := .lst [.int 0]) m2
    intro c4 m4
    have s4 := same_new (o := .dK []) m4
    refine ⟨.int ls.length, rfl, _, rfl, by show 11 ≤ sizeLine; decide, fun c3 m3 => ?_⟩
    have s3 := same_new (o := .lst [.int (-1), .int ls.length, .bl true, .bl false, .non, .str "0", .ref c1, .int (10 ^ (40 : Int).toNat), .ref c2, .ref c4, .int (-(ls.length : Int))]) m3
    have V1 := W2.same s1
    have V2 := V1.same s2
    have V4 := V2.same s4
    have V3 := V4.same s3
    refine ⟨st, c3, _, [.int (-1), .int ls.length, .bl true, .bl false, .non, .str "0", .tup [.int 0], .int (10 ^ (40 : Int).toNat), .lst [.int 0], .dct, .int (-(ls.length : Int))], rfl, V3, V4.ne m3, upd_same,
      .cons (.int _) (.cons (.int _) (.cons (.bl _) (.cons (.bl _) (.cons .non (.cons (.str _) (.cons (.tup (W2.ne m1) (s3 _ _ (s4 _ _ (s2 _ _ upd_same))) (.cons (.int _) .nil)) (.cons (.int _) (.cons (.lst (V1.ne m2) (s3 _ _ (s4 _ _ upd_same)) (.cons (.int _) .nil)) (.cons (.dct (V2.ne m4) (s3 _ _ upd_same)) (.cons (.int _) .nil)))))))))), by show 1 ≤ 11; decide, by show 11 ≤ 1000; decide, fun vo dO H4 tO mO W4 e4 => ?_⟩
    have e04 : ExS st H H4 := e2.trans ((ExS.of (Same.trans s1 (Same.trans s2 (Same.trans s4 s3)))).trans e4)
    have tw4 := tw.mono e04
    clear s1 s2 s3 s4 V1 V2 V3 V4 m1 m2 m3 m4 mO e4 hys W2 e2 hxs
    -- the first one
    refine ⟨.ref pw, rfl, .int r2, rfl, r2, rfl, slM_ok W4 tw4 fun c H5 es tc lc mc s5 => ?_⟩
    refine ⟨vo, rfl, by show 1 ≤ sizeLine; decide, fun c2 m2 => ?_⟩
    have s6 := same_new (o := .lst [vo]) m2
    have W5 := W4.same s5
    refine catM_ok (es := [dO]) (W5.same s6) (tc.mono (.of s6)) (.lst (W5.ne m2) upd_same (.cons ((tO.mono (.of s5)).mono (.of s6)) .nil)) (by show es.length + 1 ≤ _; omega) fun c3 H7 t3 s7 => ?_
    have s47 := Same.trans s5 (Same.trans s6 s7)
    refine ⟨.ref pw, rfl, .int r2, rfl, r2, 1, rfl, rfl, _, rfl, noPart (slM_ok (W4.same s47) (tw4.mono (.of s47)) fun c4 H8 fs tc4 lc4 mc4 s8 => ?_)⟩
    refine catM_ok ((W4.same s47).same s8) (t3.mono (.of s8)) tc4 (by rw [List.length_append]; show es.length + 1 + fs.length ≤ _; omega) fun pA H9 tA s9 => ?_
    obtain ⟨eA, heA⟩ : ∃ z, es ++ [dO] ++ fs = z := ⟨_, rfl⟩
    have lA : eA.length ≤ 3 * ds.length + 1 := by
      rw [← heA, List.length_append, List.length_append]
      show es.length + 1 + fs.length ≤ _
      omega
    rw [heA] at tA
    have s49 := Same.trans s47 (Same.trans s8 s9)
    clear heA tc lc mc t3 tc4 lc4 mc4 s5 s6 s7 s8 s9 s47 W5 m2
    -- the second one
    have W9 := W4.same s49
    have tw9 := tw4.mono (.of (st := st) s49)
    have tO9 := tO.mono (.of (st := st) s49)
    refine ⟨.ref pw, rfl, .int r2, rfl, r2, rfl, slM_ok W9 tw9 fun c H5 es tc lc mc s5 => ?_⟩
    refine ⟨vo, rfl, by show 1 ≤ sizeLine; decide, fun c2 m2 => ?_⟩
    have s6 := same_new (o := .lst [vo]) m2
    have W5 := W9.same s5
    refine catM_ok (es := [dO]) (W5.same s6) (tc.mono (.of s6)) (.lst (W5.ne m2) upd_same (.cons ((tO9.mono (.of s5)).mono (.of s6)) .nil)) (by show es.length + 1 ≤ _; omega) fun c3 H7 t3 s7 => ?_
    have s97 := Same.trans s5 (Same.trans s6 s7)
    refine ⟨.ref pw, rfl, .int r2, rfl, r2, rfl, noPart (slM_ok (W9.same s97) (tw9.mono (.of s97)) fun c4 H8 fs tc4 lc4 mc4 s8 => ?_)⟩
    refine catM_ok ((W9.same s97).same s8) (t3.mono (.of s8)) tc4 (by rw [List.length_append]; show es.length + 1 + fs.length ≤ _; omega) fun pB HB tB sB => ?_
    obtain ⟨eB, heB⟩ : ∃ z, es ++ [dO] ++ fs = z := ⟨_, rfl⟩
    have lB : eB.length ≤ 3 * ds.length + 1 := by
      rw [← heB, List.length_append, List.length_append]
      show es.length + 1 + fs.length ≤ _
      omega
    rw [heB] at tB
    have s9B := Same.trans s97 (Same.trans s8 sB)
    have s4B := Same.trans s49 s9B
    have WB := W9.same s9B
    have twB := tw9.mono (.of (st := st) s9B)
    have tAB := tA.mono (.of (st := st) s9B)
    clear heB tc lc mc t3 tc4 lc4 mc4 s5 s6 s7 s8 sB s97 W5 m2 s9B s49 W9 tw9 tO9 tA
    -- the list of them
    refine ⟨by show 2 ≤ sizeLine; decide, fun o mo => ?_⟩
    have so := same_new (o := .lst [.ref pA, .ref pB]) mo
    have no : o ≠ st := WB.ne mo
    have ho : H4 o = none := Same.free s4B mo
    have hoH : H o = none := by
      cases z : H o with
      | none => rfl
      | some u =>
        have := e04 _ _ no z
        rw [ho] at this
        cases this
    have twO : TD2 st o _ (.ref pw) (.lst ds) := TD2.same ⟨twB, TD.off mo twB⟩ so
    have tAO : TD2 st o _ (.ref pA) (.lst eA) := TD2.same ⟨tAB, TD.off mo tAB⟩ so
    have tBO : TD2 st o _ (.ref pB) (.lst eB) := TD2.same ⟨tB, TD.off mo tB⟩ so
    have WO := WB.same so
    have eO : ExS st H4 (upd HB o (.lst [.ref pA, .ref pB])) := .of (Same.new s4B mo)
    have atO : (upd HB o (.lst [.ref pA, .ref pB])) o = some (.lst [.ref pA, .ref pB]) := upd_same
    generalize upd HB o (.lst [.ref pA, .ref pB]) = G at twO tAO tBO WO eO atO ⊢
    clear so mo s4B tAB tB twB WB
    -- the third one
    refine ⟨.ref o, rfl, .inl ⟨rfl, _, SqL.of atO⟩, .ref pw, rfl, .int r2, rfl, r2, rfl, sl2_ok WO ⟨_, atO⟩ twO fun c H5 es tc lc s5 => ?_⟩
    have at5 := s5 _ _ atO
    refine ⟨.ref pw, rfl, .int r2, rfl, r2, 1, rfl, rfl, _, rfl, noPart (sl2_ok (WO.same s5) ⟨_, at5⟩ (twO.same s5) fun c4 H8 fs tc4 lc4 s8 => ?_)⟩
    refine cat2_ok ((WO.same s5).same s8) ⟨_, s8 _ _ at5⟩ (tc.same s8) tc4 (by omega) fun pC HC tC sC => ?_
    have s5C := Same.trans s5 (Same.trans s8 sC)
    have lC : (es ++ fs).length ≤ 3 * ds.length + 1 := by rw [List.length_append]; omega
    generalize es ++ fs = eC at tC lC
    have atC := s5C _ _ atO
    refine ⟨o, _, .ref pC, rfl, rfl, atC, by show 2 < sizeLine; decide, ?_⟩
    have tw2 := (twO.same s5C).app (u := .lst ([.ref pA, .ref pB] ++ [.ref pC]))
    have tA2 := (tAO.same s5C).app (u := .lst ([.ref pA, .ref pB] ++ [.ref pC]))
    have tB2 := (tBO.same s5C).app (u := .lst ([.ref pA, .ref pB] ++ [.ref pC]))
    have tC2 := tC.app (u := .lst ([.ref pA, .ref pB] ++ [.ref pC]))
    have WC := WO.same s5C
    have W2 : Well st (upd HC o (.lst ([.ref pA, .ref pB] ++ [.ref pC]))) := by
      obtain ⟨x1, x2, x3, h⟩ := WC
      exact ⟨x1, x2, x3, by rw [upd_ne no.symm]; exact h⟩
    have e2 : ExS st H (upd HC o (.lst ([.ref pA, .ref pB] ++ [.ref pC]))) := fun b u nb hb => by
      rw [upd_ne (ne_of_none hb hoH)]
      exact s5C _ _ (eO _ _ nb (e04 _ _ nb hb))
    have at2 : (upd HC o (.lst ([.ref pA, .ref pB] ++ [.ref pC]))) o = some (.lst ([.ref pA, .ref pB] ++ [.ref pC])) := upd_same
    generalize upd HC o (.lst ([.ref pA, .ref pB] ++ [.ref pC])) = G2' at tw2 tA2 tB2 tC2 W2 e2 at2 ⊢
    clear tc lc tc4 lc4 s5 s8 sC s5C at5 atC tC twO tAO tBO WO eO atO WC
    -- the fourth one
    refine ⟨.ref o, rfl, .inl ⟨rfl, _, SqL.of at2⟩, .ref pw, rfl, .int r2, rfl, r2, rfl, sl2_ok W2 ⟨_, at2⟩ tw2 fun c H5 es tc lc s5 => ?_⟩
    have W5 := W2.same s5
    refine ⟨.ref st, rfl, .int ls.length, rfl, st, _, rfl, W5, by omega, by omega, fun r3 H6 _ _ W6 e6 => ⟨by show 1 ≤ sizeLine; decide, fun c2 m2 => ?_⟩⟩
    have s7 := same_new (o := .lst [.int r3]) m2
    have W7 := W6.same s7
    have at6 := e6 _ _ no (s5 _ _ at2)
    have at7 := s7 _ _ at6
    refine cat2_ok (es := [.int r3]) W7 ⟨_, at7⟩ ((tc.well e6).same s7) ⟨.lst (W6.ne m2) upd_same (.cons (.int _) .nil), .lst (ne_of_none at6 m2).symm upd_same (.cons (.int _) .nil)⟩ (by show es.length + 1 ≤ _; omega) fun c3 H8 t3 s8 => ?_
    have W8 := W7.same s8
    have at8 := s8 _ _ at7
    have tw8 := (((tw2.same s5).well e6).same s7).same s8
    refine ⟨.ref pw, rfl, .int r2, rfl, r2, rfl, noPart (sl2_ok W8 ⟨_, at8⟩ tw8 fun c4 H9 fs tc4 lc4 s9 => ?_)⟩
    refine cat2_ok (W8.same s9) ⟨_, s9 _ _ at8⟩ (t3.same s9) tc4 (by rw [List.length_append]; show es.length + 1 + fs.length ≤ _; omega) fun pD HD tD sD => ?_
    have lD : (es ++ [D.int r3] ++ fs).length ≤ 3 * ds.length + 1 := by
      rw [List.length_append, List.length_append]
      show es.length + 1 + fs.length ≤ _
      omega
    generalize es ++ [D.int r3] ++ fs = eD at tD lD
    have atD := sD _ _ (s9 _ _ at8)
    refine ⟨o, _, .ref pD, rfl, rfl, atD, by show 3 < sizeLine; decide, ?_⟩
    have go : ∀ {v : V} {d : D}, TD2 st o G2' v d → TD2 st o (upd HD o (.lst ([.ref pA, .ref pB] ++ [.ref pC] ++ [.ref pD]))) v d := fun h => ((((((h.same s5).well e6).same s7).same s8).same s9).same sD).app
    have WD := (W8.same s9).same sD
    have W3 : Well st (upd HD o (.lst ([.ref pA, .ref pB] ++ [.ref pC] ++ [.ref pD]))) := by
      obtain ⟨x1, x2, x3, h⟩ := WD
      exact ⟨x1, x2, x3, by rw [upd_ne no.symm]; exact h⟩
    have e3 : ExS st H (upd HD o (.lst ([.ref pA, .ref pB] ++ [.ref pC] ++ [.ref pD]))) := fun b u nb hb => by
      rw [upd_ne (ne_of_none hb hoH)]
      exact sD _ _ (s9 _ _ (s8 _ _ (s7 _ _ (e6 _ _ nb (s5 _ _ (e2 _ _ nb hb))))))
    refine ⟨.ref st, rfl, .ref o, rfl, st, o, _, [.lst eA, .lst eB, .lst eC, .lst eD], rfl, W3, no, upd_same, .cons (go tA2).1 (.cons (go tB2).1 (.cons (go tC2).1 (.cons tD.app.1 .nil))), by show 1 ≤ 4; decide, by show 4 ≤ 1000; decide, fun v d H' tv md W' e' => ?_⟩
    have fin : ∀ es, d = .lst es → es.length ≤ 3 * ds.length + 1 → Q v H' := fun es hd hl => by
      subst hd
      cases tv with
      | lst n h t => exact q _ _ _ (.lst n h t) hl W' (e3.trans e')
    simp only [List.mem_cons, List.not_mem_nil, or_false] at md
    rcases md with h | h | h | h
    · exact fin _ h lA
    · exact fin _ h lB
    · exact fin _ h lC
    · exact fin _ h lD
end
end As

namespace As
open PySem PySem.Spec PyProof.Rows L2
/-! ### lists of the very same items -/
def rNeSame (K : PySem.W.Frag) : R2 := fun x y H Q => ∃ a b xs, x = .ref a ∧ y = .ref b ∧ SqL K H a xs ∧ SqL K H b xs ∧ (∀ z ∈ xs, (flatV z = true ∧ eqV z z = true) ∨ ∃ c, z = .ref c) ∧ Q (.bl false) H
theorem op_neSame {X : Cx} (hu : X.A.units < cLine) : OpR X (compareOp .NotEq) (rNeSame X.K) := by
  intro pins s σ H x y v u Q I rx ry h
  obtain ⟨a, b, xs, rfl, rfl, ha, hb, hz, q⟩ := h
  cases rx
  cases ry
  obtain ⟨its, rv, p1, _⟩ := I.list ha
  obtain ⟨its2, rv2, p2, _⟩ := I.list hb
  have l1 := rv.length
  have l2 := rv2.length
  refine SeqAt.RcNeAt.lists p1.isList p2.isList (by simp; omega) hu (e := fun _ => true) (fun j h1 h2 => ?_) _ _ _ _ ?_
  · have hj : j < xs.length := by
      have : j < its.length := by simpa using h1
      omega
    obtain ⟨u1, e1, r1⟩ := rv.get (List.getElem?_eq_getElem hj)
    obtain ⟨u2, e2, r2⟩ := rv2.get (List.getElem?_eq_getElem hj)
    have f1 : its.toArray[j] = u1 := by
      have := (List.getElem?_eq_some_iff.mp e1).2
      simpa using this
    have f2 : its2.toArray[j] = u2 := by
      have := (List.getElem?_eq_some_iff.mp e2).2
      simpa using this
    rw [f1, f2]
    rcases hz _ (List.getElem_mem hj) with ⟨fl, ev⟩ | ⟨c, ec⟩
    · have := eqAt_V (A := X.A.in1) (s := s) r1 r2 fl fl
      rw [ev] at this
      exact this
    · rw [ec] at r1 r2
      obtain rfl : u1 = Value.ref c := r1
      obtain rfl : u2 = Value.ref c := r2
      exact SeqAt.EqAt.same _
  · exact ⟨.bl false, H, I, by rw [List.all_eq_true.mpr (fun _ _ => rfl)]; rfl, q⟩
def rNeNil (K : PySem.W.Frag) : R2 := fun x y H Q => ∃ a b xs, x = .ref a ∧ y = .ref b ∧ SqL K H a xs ∧ SqL K H b [] ∧ Q (.bl (!xs.isEmpty)) H
theorem op_neNil {X : Cx} (hu : X.A.units < cLine) : OpR X (compareOp .NotEq) (rNeNil X.K) := by
  intro pins s σ H x y v u Q I rx ry h
  obtain ⟨a, b, xs, rfl, rfl, ha, hb, q⟩ := h
  cases rx
  cases ry
  obtain ⟨its, rv, p1, _⟩ := I.list ha
  obtain ⟨its2, rv2, p2, _⟩ := I.list hb
  cases rv2
  cases xs with
  | nil =>
    cases rv
    exact SeqAt.RcNeAt.lists p1.isList p2.isList rfl hu (e := fun _ => true) (fun j h1 _ => absurd h1 (Nat.not_lt_zero _)) _ _ _ _ ⟨.bl false, H, I, rfl, q⟩
  | cons x xs =>
    cases rv with
    | cons r1 r2 => exact SeqAt.RcNeAt.lists_lengths p1.isList p2.isList (by simp) hu _ _ _ _ ⟨.bl true, H, I, rfl, q⟩
theorem TDs.items {st : Addr} {H : Hp} : ∀ {vs : List V} {ds : List D}, TDs st H vs ds → ∀ z ∈ vs, (flatV z = true ∧ eqV z z = true) ∨ ∃ c, z = .ref c
  | _, _, .nil, z, hz => by cases hz
  | _, _, .cons h t, z, hz => by
    rcases List.mem_cons.mp hz with rfl | hz
    · cases h with
      | non => exact .inl ⟨rfl, rfl⟩
      | bl b => exact .inl ⟨rfl, by cases b <;> rfl⟩
      | int i => exact .inl ⟨rfl, by simp [eqV]⟩
      | str z => exact .inl ⟨rfl, by simp [eqV]⟩
      | tup => exact .inr ⟨_, rfl⟩
      | lst => exact .inr ⟨_, rfl⟩
      | dct => exact .inr ⟨_, rfl⟩
    · exact TDs.items t z hz
abbrev sRight : Stmt := topS 40
abbrev nRight : List Str := ["_law_well_here", "_law_many", "_law_weaving_here", "_law_number", "_law_turn", "_law_kept", "_law_place_here", "_law_due", "_law_bad", "_law_dealings_here", "_law_odd", "_law_thing"]
theorem scRight : FnScope nRight ["_law_well_here"] (defScope sRight) := ⟨rfl, rfl, rfl, by decide +kernel, rfl, by decide +kernel, by decide +kernel⟩
def wP (w : List Nat) : PyData := .list ((w.map fun (k : Nat) => (k : Int)).map PyData.int)
theorem wD_Dp {K : PySem.W.Frag} {st : Addr} {H : Hp} {v : V} {w : List Nat} (h : TD st H v (wD w)) : Dp K H v (wP w) := by
  obtain ⟨a, rfl, _, ha⟩ := wD_V h
  rw [iv_int] at ha
  exact .lst (SqL.of ha) (dp_ints _)
theorem wP_eqv (a : List Nat) : PyData.eqv (wP a) (wP a) = true := by
  unfold wP
  rw [eqv_ints]
  exact decide_eq_true rfl
theorem num_true {i R : Int} (h0 : 0 ≤ i) (h1 : i < R) : numB (.int i) R = true := by
  show (decide (0 ≤ i) && decide (i < R)) = true
  rw [decide_eq_true h0, decide_eq_true h1]
  rfl
theorem wfv_isW {ls : List (List Pr)} {wv : List Nat} (h : isW (tnOf ls) wv) : wfv ls (wD wv) = .non := by
  show flt (turnsOf ls) _ 0 = _
  rw [turns_tn]
  exact flt_isW 0 h
theorem pair_shaped (z : Str) (i : Int) (hz : PyData.strOk z = true) : SeqAt.shaped (.tuple [.str z, .int i]) = true ∧ PyData.canLay0 (.tuple [.str z, .int i]) = true := by
  have hc : PyData.canLay0 (.tuple [.str z, .int i]) = true := by simp [PyData.canLay0, PyData.canLayAll0, hz]
  refine ⟨?_, hc⟩
  show (PyData.canLay0 (.tuple [.str z, .int i]) && decide (PyData.depth (.tuple [.str z, .int i]) ≤ 64)) = true
  rw [hc, Bool.true_and, decide_eq_true_eq]
  simp [PyData.depth, PyData.depthAll]
/-- what is due -/
def dueB (ls : List (List Pr)) (ds : List D) (z : Str) (i : Int) : Prop := (z = "told" ∧ ∃ wt, D.lst ds = wD wt ∧ isW (tnOf ls) wt ∧ i = (rank (tnOf ls) wt : Nat)) ∨ (z = "weaving" ∧ flt (turnsOf ls) ds 0 = .int i)
theorem wD_inj {a b : List Nat} (h : wD a = wD b) : a = b := by
  have h' := congrArg (List.map fun d => match d with | D.int i => i.toNat | _ => 0) (D.lst.inj h)
  simpa [List.map_map, Function.comp_def] using h'
theorem wInt {ls : List (List Pr)} {wv : List Nat} {i : Int} (hw : isW (tnOf ls) wv) (h : wfv ls (wD wv) = .int i) : False := by
  rw [wfv_isW hw] at h
  cases h
section
variable {P : Program} {w : World} {K : PySem.W.Frag} {mg : Str → Option Value} {base : Heap} {CA CS CW CO CN : Addr}
abbrev tabsOf (pL : Addr) : List (Addr × Str) := [(pL, Str.ofString "_law_right" ++ ".<locals>." ++ "<lambda>")]
def spRight (pL : Addr) : Sp := fun vs H Q _ => ∃ (st : Addr), vs = [.ref st] ∧ Well st H ∧ LamX.Tabs (tabsOf pL) H ∧ ∀ H', ExM st H H' → LamX.Tabs (tabsOf pL) H' → Q (.bl true) H'
theorem ok_right {f fR fP cL pL : Addr} {fdR : FuncData} {k : Nat} {oc kV doc pm ct ocP kVP dcP pmP cdP ctP : Value} {an od anP odP : Option Addr} {osl slP : Array (Option Value)} (lk : K.lookup f = some ⟨oc, od, .func (PySem.W.fnOf "_law_right" "_law_right" (defArgs sRight) (defBody sRight) (defScope sRight) .none kV doc pm an (.ref cL) ct), osl⟩) (hcd : PySem.W.codeIn K (.ref cL) "_law_right" = true)
    (FR : Fun K "_law_told" "_law_told" sTold fR fdR) (gR : mg "_law_told" = some (.ref fR)) (bR' : Binds K fdR ["_law_ask"] []) (TB : LamX.TabB base mg cL pL) (M : Mg mg) (T : Tl K mg CA CS CW CO CN) (KS : KiW K CS CA CS CW CO CN true false) (KW : KiW K CW CA CS CW CO CN false true)
    (TX : XfC K CW) (hno : PySem.W.findIn K (.ref CW) "place" = some none)
    (lkP : K.lookup fP = some ⟨ocP, odP, .func (PySem.W.fnOf "_law_place" "_law_place" (defArgs sPlace) (defBody sPlace) (defScope sPlace) .none kVP dcP pmP anP cdP ctP), slP⟩) (hcP : PySem.W.codeIn K cdP "_law_place" = true) (hmP : mg "_law_place" = some (.ref fP)) (hkP : PySem.W.keepIn K (.ref fP) = true)
    (hbP : Binds K (PySem.W.fnOf "_law_place" "_law_place" (defArgs sPlace) (defBody sPlace) (defScope sPlace) .none kVP dcP pmP anP cdP ctP) ["_law_e"] [])
    (Kdraw : Ok P w K mg base CX0 (k + 2) "_law_draw" ["_law_well_here", "_law_many"] spDraw) (Kdeal : Ok P w K mg base CX0 (k + 2) "_law_dealings" ["_law_well_here", "_law_many", "_law_most"] spDealings) (Kweav : Ok P w K mg base CX0 (k + 2) "_law_weaving" ["_law_well_here", "_law_dealings_here"] spWeav)
    (Kspo : Ok P w K mg base CX0 (k + 2) "_law_spoilt" ["_law_well_here", "_law_dealings_here", "_law_weaving_here"] spSpo) (Kone : Ok P w K mg base CX0 (k + 2) "_law_one" ["_law_well_here", "_law_some"] spOne) (Kfau : Ok P w K mg base CX0 (k + 2) "_law_fault" ["_law_dealings_here", "_law_thing"] spFault)
    (Knum : Ok P w K mg base (L2.CX P w) k "number_of" ["dealings", "weaving"] (spNumA CS CW)) (Kwf : Ok P w K mg base (L2.CX P w) k "weaving_fault" ["dealings", "thing"] (spWF CS)) (Kat : Ok P w K mg base (L2.CX P w) k "weaving_at" ["dealings", "number"] (spAt CS CN)) :
    FnOk P w K mg base CX0 (k + 3) f (PySem.W.fnOf "_law_right" "_law_right" (defArgs sRight) (defBody sRight) (defScope sRight) .none kV doc pm an (.ref cL) ct) ["_law_well_here"] (spRight pL) := by
  obtain ⟨f1, fd1, G1, g1, k1, b1⟩ := Kdraw.ex
  obtain ⟨f2, fd2, G2, g2, k2, b2⟩ := Kdeal.ex
  obtain ⟨f3, fd3, G3, g3, k3, b3⟩ := Kweav.ex
  obtain ⟨f4, fd4, G4, g4, k4, b4⟩ := Kspo.ex
  obtain ⟨f5, fd5, G5, g5, k5, b5⟩ := Kone.ex
  obtain ⟨f6, fd6, G6, g6, k6, b6⟩ := Knum.ex
  obtain ⟨f7, fd7, G7, g7, k7, b7⟩ := Kfau.ex
  obtain ⟨f8, fd8, G8, g8, k8, b8⟩ := Kwf.ex
  obtain ⟨f9, fd9, G9, g9, k9, b9⟩ := Kat.ex
  obtain ⟨ocR, odR, kVR, docR, pmR, anR, cdR, ctR, oslR, rfl, lkR, hcR⟩ := FR.ex
  have kR := FR.kp
  have bR := bR'
  refine fn_of lk hcd scRight (fun vs H Q E h => ?_) (fun A outer s H vs Q E hr h => ?_)
  · obtain ⟨st, rfl, _⟩ := h
    rfl
  · obtain ⟨st, rfl, hW, tabs, q⟩ := h
    let Tb := tabsOf pL
    suffices hx : ∃ t, PSs (cxOf CX0 P w K mg base nRight "_law_right" (defScope sRight) f (.ref cL) A outer s H E).nox (defBody sRight) t ∧ t { nx := fun _ H' => Q .non H', rt := Q } (start nRight [.ref st]) H by
      obtain ⟨t, h1, h2⟩ := hx
      exact ⟨t, h1.nox, h2⟩
    have hrk : Room k (A.deeper (envOfC "_law_right" (defScope sRight) s.heap.objs.size f (.ref cL))) := hr.mono (by omega)
    have hu0 : (A.deeper (envOfC "_law_right" (defScope sRight) s.heap.objs.size f (.ref cL))).units < cLine := by have := hr.un; omega
    refine ⟨_, (pss_cons (ps_set (i := 1) scRight.nd rfl (.inl rfl) (pe_add pe_int (pe_call G1 hr (by rfl) g1 k1 b1 .nil pass0 (pa_cons (pv 0) (pa_cons pe_int pa_nil)))))
      (pss_cons (ps_set (i := 9) scRight.nd rfl (.inr rfl) (pe_call G2 hr (by rfl) g2 k2 b2 .nil pass0 (pa_cons (pv 0) (pa_cons (pv 1) (pa_cons pe_int pa_nil)))))
      (pss_cons (ps_set (i := 2) scRight.nd rfl (.inl rfl) (pe_call G3 hr (by rfl) g3 k3 b3 .nil pass0 (pa_cons (pv 0) (pa_cons (pv 9) pa_nil))))
      (pss_cons (ps_set (i := 3) scRight.nd rfl (.inl rfl) (pe_call (E := E0) G6 hrk (by rfl) g6 k6 b6 .nil passX0 (pa_cons (pv 9) (pa_cons (pv 2) pa_nil))))
      (pss_cons (ps_for PassesOwn.never rfl (pi_range1 (by rfl) M.range (pa_cons pe_int pa_nil)) (pg_name (i := 4) scRight.nd rfl (.inl rfl))
      (pss_cons (ps_set (i := 11) scRight.nd rfl (.inr rfl) (pe_call G4 hr (by rfl) g4 k4 b4 .nil pass0 (pa_cons (pv 0) (pa_cons (pv 9) (pa_cons (pv 2) pa_nil)))))
      (pss_cons (ps_mid (ps_if (PW.pt (pw_and (pt_cmpR op_eq (pe_call G1 hr (by rfl) g1 k1 b1 .nil pass0 (pa_cons (pv 0) (pa_cons pe_int pa_nil))) pe_int (nomark _)) (pw_and1 (pt_cmpR (show OpR _ _ (rNeNil K) from op_neNil hu0) (pv 11) (pe_lst pa_nil) (nomark _))))) (pss_one (ps_set (i := 11) scRight.nd rfl (.inr rfl) (pe_call G4 hr (by rfl) g4 k4 b4 .nil pass0 (pa_cons (pv 0) (pa_cons (pv 9) (pa_cons (pv 11) pa_nil)))))) pss_nil))
      (pss_cons (ps_mid (ps_if (pt_cmpR op_eq (pe_call G1 hr (by rfl) g1 k1 b1 .nil pass0 (pa_cons (pv 0) (pa_cons pe_int pa_nil))) pe_int (nomark _)) (pss_one (ps_set (i := 11) scRight.nd rfl (.inr rfl) (pe_call G3 hr (by rfl) g3 k3 b3 .nil pass0 (pa_cons (pv 0) (pa_cons (pe_call G2 hr (by rfl) g2 k2 b2 .nil pass0 (pa_cons (pv 0) (pa_cons (pv 1) (pa_cons pe_int pa_nil)))) pa_nil))))) pss_nil))
      (pss_cons (ps_set (i := 5) scRight.nd rfl (.inl rfl) (pe_callTy call_list_of (by rfl) M.list (by decide +kernel) (pa_cons (pv 11) pa_nil)))
      (pss_cons (ps_set (i := 6) scRight.nd rfl (.inl rfl) (pe_call G7 hr (by rfl) g7 k7 b7 .nil pass0 (pa_cons (pv 9) (pa_cons (pv 11) pa_nil))))
      (pss_cons (ps_set (i := 7) scRight.nd rfl (.inl rfl) (pe_tup (pa_cons pe_str (pa_cons (pv 6) pa_nil))))
      (pss_cons (ps_mid (ps_if (pt_cmpR op_isN (pv 6) pe_non (nomark _)) (pss_one (ps_set (i := 7) scRight.nd rfl (.inl rfl) (pe_tup (pa_cons pe_str (pa_cons (pe_call (E := E0) G6 hrk (by rfl) g6 k6 b6 .nil passX0 (pa_cons (pv 9) (pa_cons (pv 5) pa_nil))) pa_nil))))) pss_nil))
      (pss_cons (ps_mid (ps_if (PW.pt (pw_or (pt_cmpR op_ne (pe_call (E := E0) G8 hrk (by rfl) g8 k8 b8 .nil passX0 (pa_cons (pv 9) (pa_cons (pv 11) pa_nil))) (pv 6) (nomark _)) (pw_or1 (pt_cmpR (op_neD hr.units) (LamX.pe_lamcall (T := Tb) (TT := TTw CS CW) (a := "_law_ask") (k := k) (c := cL) (P := pL) (Ng := nTold) (t := fun E => tCall (spNumA CS CW) [] E (tCons (tVar 9) (tCons (tVar 11) tNil))) (by rfl) gR kR lkR hcR bR scTold rfl (.inl rfl) (told_gives16 (k := k + 1) hr T KS KW M TX hno lkP hcP hmP hkP hbP) TB rfl (List.mem_singleton.mpr rfl) (fun p hp _ => by rw [List.mem_singleton.mp hp]; rfl) hr (LamX.lamS_by (sc := defScope sRight) (by decide +kernel)) rfl (fun _ _ _ _ _ => rfl) (fun A outer s H E f c2 hr2 => pe_call (E := E) G6 hr2 (by rfl) g6 k6 b6 .nil (passes_call (takes_of rfl rfl rfl rfl) (fun _ _ _ _ h => h)) (pa_cons (pv 9) (pa_cons (pv 11) pa_nil)))) (pv 7) (nomark _))))) (pss_one (ps_ret pe_bl)) pss_nil))
      (pss_one (ps_if (PW.pt (pw_or (pt_cmpR (show OpR _ _ (rNeSame K) from op_neSame hu0) (pv 11) (pv 5) (nomark _)) (pw_or1 (pt_cmpR op_ne (pe_call (E := E0) G6 hrk (by rfl) g6 k6 b6 .nil passX0 (pa_cons (pv 9) (pa_cons (pv 2) pa_nil))) (pv 3) (nomark _))))) (pss_one (ps_ret pe_bl)) pss_nil)))))))))))
      (pss_cons (ps_set (i := 10) scRight.nd rfl (.inr rfl) (pe_call G5 hr (by rfl) g5 k5 b5 .nil pass0 (pa_cons (pv 0) (pa_cons (pe_lst (pa_cons pe_non (pa_cons (pe_callTy call_tuple_of (by rfl) M.tuple (by decide +kernel) (pa_cons (pv 2) pa_nil)) (pa_cons pe_str (pa_cons pe_int (pa_cons pe_dnewK (pa_cons pe_bl pa_nil))))))) pa_nil))))
      (pss_cons (ps_if (pt_cmpR (op_neD hr.units) (LamX.pe_lamcall (T := Tb) (TT := TTw CS CW) (a := "_law_ask") (k := k) (c := cL) (P := pL) (Ng := nTold) (t := fun E => tCall (spNumA CS CW) [] E (tCons (tVar 9) (tCons (tVar 10) tNil))) (by rfl) gR kR lkR hcR bR scTold rfl (.inl rfl) (told_gives16 (k := k + 1) hr T KS KW M TX hno lkP hcP hmP hkP hbP) TB rfl (List.mem_singleton.mpr rfl) (fun p hp _ => by rw [List.mem_singleton.mp hp]; rfl) hr (LamX.lamS_by (sc := defScope sRight) (by decide +kernel)) rfl (fun _ _ _ _ _ => rfl) (fun A outer s H E f c2 hr2 => pe_call (E := E) G6 hr2 (by rfl) g6 k6 b6 .nil (passes_call (takes_of rfl rfl rfl rfl) (fun _ _ _ _ h => h)) (pa_cons (pv 9) (pa_cons (pv 10) pa_nil)))) (pe_tup (pa_cons pe_str (pa_cons (pe_un un_neg pe_int) pa_nil))) (nomark _)) (pss_one (ps_ret pe_bl)) pss_nil)
      (pss_cons (ps_set (i := 8) scRight.nd rfl (.inr rfl) (pe_call G5 hr (by rfl) g5 k5 b5 .nil pass0 (pa_cons (pv 0) (pa_cons (pe_lst (pa_cons (pe_lst pa_nil) (pa_cons pe_non (pa_cons (pe_callTy call_tuple_of (by rfl) M.tuple (by decide +kernel) (pa_cons (pv 9) pa_nil)) (pa_cons (pe_op op_cat (pv 9) (pe_lst (pa_cons (pe_tup pa_nil) pa_nil))) (pa_cons (pe_op op_cat (pe_lst (pa_cons pe_non pa_nil)) (pv 9)) (pa_cons pe_str pa_nil))))))) pa_nil))))
      (pss_cons (ps_if (pt_cmpR (op_neD hr.units) (LamX.pe_lamcall (T := Tb) (TT := TTw CS CW) (a := "_law_ask") (k := k) (c := cL) (P := pL) (Ng := nTold) (t := fun E => tCall (spNumA CS CW) [] E (tCons (tVar 8) (tCons (tVar 10) tNil))) (by rfl) gR kR lkR hcR bR scTold rfl (.inl rfl) (told_gives16 (k := k + 1) hr T KS KW M TX hno lkP hcP hmP hkP hbP) TB rfl (List.mem_singleton.mpr rfl) (fun p hp _ => by rw [List.mem_singleton.mp hp]; rfl) hr (LamX.lamS_by (sc := defScope sRight) (by decide +kernel)) rfl (fun _ _ _ _ _ => rfl) (fun A outer s H E f c2 hr2 => pe_call (E := E) G6 hr2 (by rfl) g6 k6 b6 .nil (passes_call (takes_of rfl rfl rfl rfl) (fun _ _ _ _ h => h)) (pa_cons (pv 8) (pa_cons (pv 10) pa_nil)))) (pe_tup (pa_cons pe_str (pa_cons pe_non pa_nil))) (nomark _)) (pss_one (ps_ret pe_bl)) pss_nil)
      (pss_one (ps_ret (pe_cmpR (op_eqD hr.units) (pe_call (E := E0) G9 hrk (by rfl) g9 k9 b9 .nil passX0 (pa_cons (pv 9) (pa_cons (pv 3) pa_nil))) (pv 2) (nomark _))))))))))))), ?_⟩
    -- many, dealings, weaving, number
    refine ⟨.ref st, rfl, st, 5, rfl, hW, by decide, by decide, fun r H1 r0 r1 W1 e1 => ⟨1, r, rfl, rfl, ?_⟩⟩
    obtain ⟨n, hn⟩ : ∃ n : Nat, 1 + r = (n : Int) := ⟨(1 + r).toNat, by omega⟩
    rw [hn]
    have n1 : 1 ≤ n := by omega
    have n5 : n ≤ 5 := by omega
    refine ⟨.ref st, rfl, .int n, rfl, st, n, 6, rfl, W1, by omega, by decide, by decide, fun pd ls H4 td4 hls okl npd W4 e4 => ?_⟩
    have are : areDealings (dsD ls) = true := dealings_yes okl (by omega) (by omega)
    have no : ∀ {X : Prop}, areDealings (dsD ls) = false → X := fun hf => (Bool.false_ne_true (hf.symm.trans are)).elim
    refine ⟨.ref st, rfl, .ref pd, rfl, st, .ref pd, ls, rfl, W4, td4, by omega, okl, fun pw wv H6 hw npw npwH hpw W6 e6 => ?_⟩
    have w900 := isW900 are hw
    have wlen : 1 ≤ wv.length := by
      have h1 := isW_len hw
      obtain ⟨l0, lr, rfl⟩ : ∃ l0 lr, ls = l0 :: lr := by
        cases ls with
        | nil => exact absurd hls (by show ¬ 0 = n; omega)
        | cons a b => exact ⟨a, b, rfl⟩
      have : (tnOf (l0 :: lr)).sum = (l0.length + 1) + (tnOf lr).sum := rfl
      omega
    have td6 := td4.mono e6
    have tw6 : TD st H6 (.ref pw) (wD wv) := wD_of npw hpw
    obtain ⟨m, hm⟩ : ∃ m : Nat, rank (tnOf ls) wv = m := ⟨_, rfl⟩
    have lw : ∀ ds, wD wv = .lst ds → ds.length ≤ 10000 := fun ds e => by
      rw [← D.lst.inj e, List.length_map]
      omega
    refine ⟨.ref pd, rfl, .ref pw, rfl, st, .ref pd, .ref pw, dsD ls, wD wv, rfl, td6, tw6, lw, no, fun ls' el _ => ?_⟩
    have el' := dsD_inj el
    subst el'
    refine ⟨fun wx ew hwx HX sX => ?_, fun i hi => (wInt hw hi).elim⟩
    have ewx := wD_inj ew
    subst ewx
    rw [hm]
    have WX := W6.same sX
    have tdX := td6.mono (.of (st := st) sX)
    have twX := tw6.mono (.of (st := st) sX)
    have eHX : ExS st H HX := e1.trans (e4.trans (e6.trans (.of sX)))
    have tbX := tabs_well hW eHX tabs
    clear e1 e4 e6 sX td4 td6 tw6 W1 W4 W6 hpw npwH npd r0 r1
    -- the turns
    refine ⟨4, rfl, by decide, by decide, ?_⟩
    refine for_range (lo := 0) (fun i σ H' => ∃ y4 y5 y6 y7 y11, σ = [some (.ref st), some (.int n), some (.ref pw), some (.int (m : Nat)), y4, y5, y6, y7, none, some (.ref pd), none, y11] ∧ ExM st HX H' ∧ LamX.Tabs Tb H' ∧ Well st H') ⟨_, _, _, _, _, rfl, fun _ _ _ _ h => h, tbX, WX⟩ (fun i σ H9 hi hP => ?_) (fun σ H9 hP => ?_)
    · obtain ⟨y4, y5, y6, y7, y11, rfl, e9, t9, W9⟩ := hP
      have td9 := tdX.monoM e9
      have tw9 := twX.monoM e9
      refine ⟨.ref st, rfl, .ref pd, rfl, .ref pw, rfl, st, .ref pd, pw, ls, _, rfl, W9, td9, by omega, by omega, tw9, by rw [List.length_map]; exact wlen, by rw [List.length_map]; omega, fun pt0 es0 HA tA lA WA eA => ?_⟩
      rw [List.length_map] at lA
      -- once more
      refine ⟨fun σ H' => ∃ pt es, σ = [some (.ref st), some (.int n), some (.ref pw), some (.int (m : Nat)), some (.int (0 + i)), y5, y6, y7, none, some (.ref pd), none, some (.ref pt)] ∧ TD st H' (.ref pt) (.lst es) ∧ es.length ≤ 9000 ∧ Well st H' ∧ ExS st H9 H', ?_, fun σ HB hJ => ?_⟩
      · refine ⟨.ref st, rfl, st, 2, rfl, WA, by decide, by decide, fun r2 HA2 _ _ WA2 eA2 => ⟨rfl, _, rfl, ?_⟩⟩
        have tA2 := tA.mono eA2
        have skip : ∀ H', Same HA2 H' → ∃ pt es, ([some (.ref st), some (.int n), some (.ref pw), some (.int (m : Nat)), some (.int (0 + i)), y5, y6, y7, none, some (.ref pd), none, some (.ref pt0)] : L2.St) = [some (.ref st), some (.int n), some (.ref pw), some (.int (m : Nat)), some (.int (0 + i)), y5, y6, y7, none, some (.ref pd), none, some (.ref pt)] ∧ TD st H' (.ref pt) (.lst es) ∧ es.length ≤ 9000 ∧ Well st H' ∧ ExS st H9 H' := fun H' s' => ⟨pt0, es0, rfl, tA2.mono (.of s'), by omega, WA2.same s', eA.trans (eA2.trans (.of s'))⟩
        refine ite2 (fun _ => ?_) (fun _ => iteF (skip _ (Same.refl _)))
        obtain ⟨ys, hys, hyl⟩ : ∃ ys, HA2 pt0 = some (.lst ys) ∧ ys.length = es0.length := by
          cases tA2 with
          | lst n h t => exact ⟨_, h, t.length⟩
        refine ⟨.ref pt0, rfl, Nat.zero_le _, fun c nc => ?_⟩
        have sc := same_new (o := .lst []) nc
        refine ⟨pt0, c, ys, rfl, rfl, SqL.of (sc _ _ hys), SqL.of upd_same, _, rfl, ?_⟩
        cases ys with
        | nil => exact iteF (skip _ sc)
        | cons y0 yr =>
          have hl1 : 1 ≤ es0.length := by rw [← hyl]; exact Nat.succ_le_succ (Nat.zero_le _)
          refine iteT ⟨.ref st, rfl, .ref pd, rfl, .ref pt0, rfl, st, .ref pd, pt0, ls, es0, rfl, WA2.same sc, td9.mono (eA.trans (eA2.trans (.of sc))), by omega, by omega, tA2.mono (.of sc), hl1, by omega, fun p es H' tp lp W' e' => ?_⟩
          exact ⟨p, es, rfl, tp, by omega, W', eA.trans (eA2.trans ((ExS.of sc).trans e'))⟩
      obtain ⟨ptB, esB, rfl, tB, lB, WB, eB⟩ := hJ
      clear tA lA WA eA
      refine ⟨fun σ H' => ∃ pt es, σ = [some (.ref st), some (.int n), some (.ref pw), some (.int (m : Nat)), some (.int (0 + i)), y5, y6, y7, none, some (.ref pd), none, some (.ref pt)] ∧ TD st H' (.ref pt) (.lst es) ∧ es.length ≤ 9000 ∧ Well st H' ∧ ExS st H9 H', ?_, fun σ HC hJ => ?_⟩
      · refine ⟨.ref st, rfl, st, 4, rfl, WB, by decide, by decide, fun r2 HB2 _ _ WB2 eB2 => ⟨rfl, _, rfl, ite2 (fun _ => ?_) (fun _ => ⟨ptB, esB, rfl, tB.mono eB2, lB, WB2, eB.trans eB2⟩)⟩⟩
        refine ⟨.ref st, rfl, .ref st, rfl, .int n, rfl, st, n, 6, rfl, WB2, by omega, by decide, by decide, fun pd2 ls2 HB3 td3 hls2 okl2 _ WB3 eB3 => ?_⟩
        refine ⟨st, .ref pd2, ls2, rfl, WB3, td3, by omega, okl2, fun pw2 wv2 HB4 hw2 npw2 _ hpw2 WB4 eB4 => ?_⟩
        have l2 := isW900 (dealings_yes okl2 (by omega) (by omega)) hw2
        exact ⟨pw2, _, rfl, wD_of npw2 hpw2, by rw [List.length_map]; omega, WB4, eB.trans (eB2.trans (eB3.trans eB4))⟩
      obtain ⟨pt, ds, rfl, tt, ld, WC, eC⟩ := hJ
      clear tB lB WB eB
      have eXC : ExM st HX HC := e9.trans (ExM.ofS eC)
      have tC := tabs_well W9 eC t9
      have tdC := td9.mono eC
      -- kept
      have tt' := tt
      cases tt' with
      | @lst _ ys _ npt hpt tys =>
      refine ⟨.ref pt, rfl, pt, _, rfl, .inl (SqL.of hpt), fun co mo => ?_⟩
      have s1 := same_new (o := .lst ys) mo
      have nco : co ≠ st := WC.ne mo
      -- place
      refine ⟨.ref pd, rfl, .ref pt, rfl, st, .ref pd, .ref pt, ls, ds, rfl, tdC.mono (.of s1), tt.mono (.of s1), by omega, by omega, by omega, fun HD sD => ?_⟩
      obtain ⟨fv, hfv⟩ : ∃ fv, fv = flt (turnsOf ls) ds 0 := ⟨_, rfl⟩
      rw [← hfv]
      have fvI : fv = .non ∨ ∃ i : Nat, fv = .int (i : Int) := by
        rw [hfv]
        rcases flt_int (ds := ds) (l := turnsOf ls) (n := 0) with h | ⟨j, h, _⟩
        · exact .inl h
        · exact .inr ⟨j, h⟩
      -- due
      refine ⟨fv, rfl, by show 2 ≤ sizeLine; decide, fun pu mu => ?_⟩
      have su := same_new (o := .tup [.str "weaving", fv]) mu
      have sU := Same.trans s1 (Same.trans sD su)
      refine ⟨fun σ H' => ∃ pz z j, σ = [some (.ref st), some (.int n), some (.ref pw), some (.int (m : Nat)), some (.int (0 + i)), some (.ref co), some fv, some (.ref pz), none, some (.ref pd), none, some (.ref pt)] ∧ H' pz = some (.tup [.str z, .int j]) ∧ pz ≠ st ∧ dueB ls ds z j ∧ Same HC H' ∧ H' co = some (.lst ys), ?_, fun σ HE hJ => ?_⟩
      · refine ⟨fv, rfl, rfl, _, rfl, ?_⟩
        rcases fvI with hf | ⟨j, hf⟩
        · rw [show decide (fv = V.non) = true from decide_eq_true hf]
          have hfn : flt (turnsOf ls) ds 0 = .non := hfv.symm.trans hf
          obtain ⟨wt, ewt, hwt⟩ := wfv_non (e := .lst ds) hfn
          have tcU : TD st _ (.ref co) (.lst ds) := .lst nco (su _ _ (sD _ _ upd_same)) (tys.mono (.of sU))
          refine iteT ⟨.ref pd, rfl, .ref co, rfl, st, .ref pd, .ref co, dsD ls, .lst ds, rfl, tdC.mono (.of sU), tcU, fun ds' e => by rw [← D.lst.inj e]; omega, no, fun ls' el _ => ?_⟩
          have el' := dsD_inj el
          subst el'
          refine ⟨fun wx ew hwx G' s' => ⟨by show 2 ≤ sizeLine; decide, fun p np => ?_⟩, fun j hj => ?_⟩
          · have sF := Same.trans sU (Same.trans s' (same_new (o := .tup [.str "told", .int (rank (tnOf ls) wx : Nat)]) np))
            exact ⟨p, "told", _, rfl, upd_same, ((WC.same sU).same s').ne np, .inl ⟨rfl, wx, ew, hwx, rfl⟩, sF, same_new np _ _ (s' _ _ (su _ _ (sD _ _ upd_same)))⟩
          · exfalso
            have hj' : flt (turnsOf ls) ds 0 = .int j := hj
            rw [hfn] at hj'
            cases hj'
        · rw [show decide (fv = V.non) = false from decide_eq_false fun c => by rw [hf] at c; cases c]
          exact iteF ⟨pu, "weaving", j, rfl, by rw [← hf]; exact upd_same, (WC.same (Same.trans s1 sD)).ne mu, .inr ⟨rfl, by rw [← hfv]; exact hf⟩, sU, su _ _ (sD _ _ upd_same)⟩
      obtain ⟨pz, z, j, rfl, hpz, npz, due, sE, hco⟩ := hJ
      clear su sU sD s1 mu mo
      have WE := WC.same sE
      have tE := tC.ext sE
      have tdE := tdC.mono (.of (st := st) sE)
      have ttE := tt.mono (.of (st := st) sE)
      have zok : SeqAt.shaped (.tuple [.str z, .int j]) = true ∧ PyData.canLay0 (.tuple [.str z, .int j]) = true := by
        refine pair_shaped z j ?_
        rcases due with ⟨rfl, _⟩ | ⟨rfl, _⟩ <;> decide +kernel
      -- asked
      refine ⟨fun σ H' => σ = [some (.ref st), some (.int n), some (.ref pw), some (.int (m : Nat)), some (.int (0 + i)), some (.ref co), some fv, some (.ref pz), none, some (.ref pd), none, some (.ref pt)] ∧ ExM st HE H' ∧ LamX.Tabs Tb H' ∧ Well st H', ?_, fun σ HF hJ => ?_⟩
      · refine ⟨.ref pd, rfl, .ref pt, rfl, st, .ref pd, .ref pt, dsD ls, .lst ds, rfl, tdE, ttE, fun ds' e => by rw [← D.lst.inj e]; omega, no, fun ls' el _ G0 s0 => ?_⟩
        have el' := dsD_inj el
        subst el'
        rw [show wfv ls (.lst ds) = fv from hfv.symm]
        refine ⟨fv, rfl, ?_, ?_⟩
        · rcases fvI with hf | ⟨j', hf⟩ <;> rw [hf] <;> rfl
        refine ⟨_, rfl, ?_⟩
        rw [show decide (fv = fv) = true from decide_eq_true rfl]
        refine iteF ⟨tE.ext s0, fun G1 g1' t1 => ?_⟩
        have eG : ExM st HE G1 := (ExM.same s0).trans (.ofN g1')
        have WG := (WE.same s0).monoN g1'
        have after : ∀ (p : Addr) (G2 : Hp), Same G1 G2 → G2 p = some (.tup [.str z, .int j]) → rNeD K (.ref p) (.ref pz) G2 (fun b G3 => ∃ k, b = .bl k ∧ if k = true then Q (.bl false) G3 else ([some (.ref st), some (.int n), some (.ref pw), some (.int (m : Nat)), some (.int (0 + i)), some (.ref co), some fv, some (.ref pz), none, some (.ref pd), none, some (.ref pt)] : L2.St) = [some (.ref st), some (.int n), some (.ref pw), some (.int (m : Nat)), some (.int (0 + i)), some (.ref co), some fv, some (.ref pz), none, some (.ref pd), none, some (.ref pt)] ∧ ExM st HE G3 ∧ LamX.Tabs Tb G3 ∧ Well st G3) := fun p G2 s2 hp => by
          have e2 := eG.trans (ExM.same s2)
          refine ⟨.tuple [.str z, .int j], .tuple [.str z, .int j], .tup (SqT.of hp) (.cons (.str _) (.cons (.int _) .nil)), .tup (SqT.of (e2 _ _ npz (fun _ z => nomatch z) hpz)) (.cons (.str _) (.cons (.int _) .nil)), zok.1, zok.1, _, rfl, ?_⟩
          rw [SeqAt.eqv_refl _ zok.2]
          exact iteF ⟨rfl, e2, t1.ext s2, WG.same s2⟩
        refine ⟨.ref pd, rfl, .ref pt, rfl, st, .ref pd, .ref pt, dsD ls, .lst ds, rfl, tdE.monoM eG, ttE.monoM eG, fun ds' e => by rw [← D.lst.inj e]; omega, no, fun ls' el _ => ?_⟩
        have el' := dsD_inj el
        subst el'
        refine ⟨fun wx ew hwx G2 s2 => ⟨by show 2 ≤ sizeLine; decide, fun p np => ?_⟩, fun j2 hj2 dd G2 s2 ndd hdd => .inr ⟨rfl, dd, j2, rfl, hdd, fun p G3 np s3 hp => ?_⟩⟩
        · have hz : z = "told" ∧ j = (rank (tnOf ls) wx : Nat) := by
            rcases due with ⟨hz, wt, ewt, _, hj⟩ | ⟨_, hj⟩
            · refine ⟨hz, ?_⟩
              rw [wD_inj (ew.symm.trans ewt)]
              exact hj
            · exfalso
              have h1 : wfv ls (.lst ds) = .non := by rw [ew]; exact wfv_isW hwx
              have h2 : wfv ls (.lst ds) = .int j := hj
              rw [h1] at h2
              cases h2
          refine ⟨.ref pz, rfl, ?_⟩
          rw [← hz.1, ← hz.2]
          exact after p _ (Same.new s2 np) upd_same
        · have hz : z = "weaving" ∧ j = j2 := by
            rcases due with ⟨_, wt, ewt, hwt, _⟩ | ⟨hz, hj⟩
            · exfalso
              rw [ewt, wfv_isW hwt] at hj2
              cases hj2
            · refine ⟨hz, ?_⟩
              have h2 : flt (turnsOf ls) ds 0 = .int j2 := hj2
              rw [hj] at h2
              exact V.int.inj h2
          refine ⟨.ref pz, rfl, ?_⟩
          refine after p _ (Same.trans s2 s3) ?_
          rw [hz.1, hz.2]
          exact hp
      obtain ⟨rfl, eF, tF, WF⟩ := hJ
      -- the same
      have ptF := (ExM.same (st := st) sE).trans eF |>.lst npt hpt
      have coF := eF.lst nco hco
      refine ⟨.ref pt, rfl, .ref co, rfl, pt, co, ys, rfl, rfl, SqL.of ptF, SqL.of coF, tys.items, _, rfl, iteF ?_⟩
      have eXF : ExM st HX HF := eXC.trans ((ExM.same sE).trans eF)
      refine ⟨.ref pd, rfl, .ref pw, rfl, st, .ref pd, .ref pw, dsD ls, wD wv, rfl, tdX.monoM eXF, twX.monoM eXF, lw, no, fun ls' el _ => ?_⟩
      have el' := dsD_inj el
      subst el'
      refine ⟨fun wx ew hwx HG sG => ?_, fun i hi => (wInt hw hi).elim⟩
      have ewx := wD_inj ew
      subst ewx
      rw [hm]
      refine ⟨.int (m : Nat), rfl, rfl, _, rfl, ?_⟩
      rw [show decide (V.int (m : Nat) = V.int (m : Nat)) = true from decide_eq_true rfl]
      exact iteF ⟨_, _, _, _, _, rfl, eXF.trans (ExM.same sG), tF.ext sG, WF.same sG⟩
    obtain ⟨y4, y5, y6, y7, y11, rfl, e9, t9, W9⟩ := hP
    -- what is odd
    have td9 := tdX.monoM e9
    have tw9 := twX.monoM e9
    have tw9' := tw9
    cases tw9' with
    | @lst _ ys' _ _ hpw9 tys9 =>
    refine ⟨.ref st, rfl, .ref pw, rfl, pw, ys', rfl, .inl ⟨SqL.of hpw9, fun a1 m1 => ?_⟩⟩
    have u1 := same_new (o := .tup ys') m1
    intro a2 m2
    have u2 := same_new (o := .dK []) m2
    have Y1 := W9.same u1
    have Y2 := Y1.same u2
    refine ⟨by show 6 ≤ sizeLine; decide, fun a3 m3 => ?_⟩
    have u3 := same_new (o := .lst [.non, .ref a1, .str "0", .int 5, .ref a2, .bl true]) m3
    have u13 := Same.trans u1 (Same.trans u2 u3)
    refine ⟨st, a3, _, [.non, .tup (wv.map fun (k : Nat) => D.int (k : Int)), .str "0", .int 5, .dct, .bl true], rfl, Y2.same u3, Y2.ne m3, upd_same, .cons .non (.cons (.tup (W9.ne m1) (u3 _ _ (u2 _ _ upd_same)) (tys9.mono (.of u13))) (.cons (.str _) (.cons (.int _) (.cons (.dct (Y1.ne m2) (u3 _ _ upd_same)) (.cons (.bl _) .nil))))), by show 1 ≤ 6; decide, by show 6 ≤ 1000; decide, fun vo dO HC tO mO WC eC => ?_⟩
    have noO : wfv ls dO = .int (-1) ∧ ∀ ds', dO ≠ .lst ds' := by
      simp only [List.mem_cons, List.not_mem_nil, or_false] at mO
      rcases mO with rfl | rfl | rfl | rfl | rfl | rfl <;> exact ⟨rfl, fun _ z => nomatch z⟩
    have eC9 : ExM st HX HC := e9.trans ((ExM.same u13).trans (ExM.ofS eC))
    have tC' := tabs_well (Y2.same u3) eC (t9.ext u13)
    clear u1 u2 u3 u13 m1 m2 m3 Y1 Y2 mO hpw9 tys9 tw9 td9 t9 W9 eC
    -- asked
    refine ⟨tC', fun G1 g1' t1 => ⟨.ref pd, rfl, vo, rfl, st, .ref pd, vo, dsD ls, dO, rfl, tdX.monoM (eC9.trans (.ofN g1')), tO.monoM (.ofN g1'), fun ds' e => (noO.2 ds' e).elim, no, fun ls' el _ => ?_⟩⟩
    have el' := dsD_inj el
    subst el'
    refine ⟨fun wx ew => (noO.2 _ ew).elim, fun j2 hj2 dd G2 s2 ndd hdd => .inr ⟨rfl, dd, j2, rfl, hdd, fun p G3 np s3 hp => ?_⟩⟩
    have hj : j2 = -1 := by
      rw [noO.1] at hj2
      exact (V.int.inj hj2).symm
    subst hj
    refine ⟨1, rfl, by show 2 ≤ sizeLine; decide, fun p2 np2 => ?_⟩
    have s4 := same_new (o := .tup [.str "weaving", .int (-1)]) np2
    refine ⟨.tuple [.str "weaving", .int (-1)], .tuple [.str "weaving", .int (-1)], .tup (SqT.of (s4 _ _ hp)) (.cons (.str _) (.cons (.int _) .nil)), .tup (SqT.of upd_same) (.cons (.str _) (.cons (.int _) .nil)), by decide +kernel, by decide +kernel, _, rfl, ?_⟩
    rw [SeqAt.eqv_refl _ (by decide +kernel)]
    refine iteF ?_
    have s24 := Same.trans s2 (Same.trans s3 s4)
    have xD : ExM st HC _ := (ExM.ofN g1').trans (ExM.same s24)
    have tD := t1.ext s24
    have WD := (WC.monoN g1').same s24
    have eD := eC9.trans xD
    have tOD := tO.monoM xD
    have tdD := tdX.monoM eD
    obtain ⟨HD, hHD⟩ : ∃ Y : Hp, Y = upd G3 p2 (.tup [.str "weaving", .int (-1)]) := ⟨_, rfl⟩
    rw [← hHD] at tD WD eD tOD tdD ⊢
    clear hHD xD s2 s3 s4 s24 np np2 t1 hp hdd ndd g1' WC tO tC' eC9
    -- what are no dealings
    cases tdD with
    | @lst _ xs' _ npd' hpdD txD =>
    have hxl : xs'.length = ls.length := by rw [txD.length, List.length_map]
    refine ⟨.ref st, rfl, Nat.zero_le _, fun c1 m1 => ?_⟩
    have s1 := same_new (o := .lst []) m1
    have V1 := WD.same s1
    refine ⟨.ref pd, rfl, pd, _, rfl, .inl ⟨SqL.of (s1 _ _ hpdD), fun c2 m2 => ?_⟩⟩
    have s2 := same_new (o := .tup xs') m2
    have V2 := V1.same s2
    refine ⟨.ref pd, rfl, Nat.zero_le _, fun c3 m3 => ?_⟩
    have s3 := same_new (o := .tup []) m3
    have V3 := V2.same s3
    refine ⟨by show 1 ≤ sizeLine; decide, fun c4 m4 => ?_⟩
    have s4 := same_new (o := .lst [.ref c3]) m4
    have V4 := V3.same s4
    have s14 := Same.trans s1 (Same.trans s2 (Same.trans s3 s4))
    refine ⟨pd, c4, _, _, rfl, rfl, s14 _ _ hpdD, upd_same, sl_of (by show xs'.length + 1 ≤ _; omega), fun c5 m5 => ?_⟩
    have s5 := same_new (o := .lst (xs' ++ [.ref c3])) m5
    have V5 := V4.same s5
    refine ⟨by show 1 ≤ sizeLine; decide, fun c6 m6 => ?_⟩
    have s6 := same_new (o := .lst [.non]) m6
    have V6 := V5.same s6
    have s16 := Same.trans s14 (Same.trans s5 s6)
    refine ⟨.ref pd, rfl, c6, pd, _, _, rfl, rfl, upd_same, s16 _ _ hpdD, sl_of (by show 1 + xs'.length ≤ _; omega), fun c7 m7 => ?_⟩
    have s7 := same_new (o := .lst ([.non] ++ xs')) m7
    have V7 := V6.same s7
    have s17 := Same.trans s16 s7
    refine ⟨by show 6 ≤ sizeLine; decide, fun o mo => ?_⟩
    have so := same_new (o := .lst [.ref c1, .non, .ref c2, .ref c5, .ref c7, .str "r0"]) mo
    have s1o := Same.trans s17 so
    have b7 := so
    have b6 := Same.trans s7 b7
    have b5 := Same.trans s6 b6
    have b4 := Same.trans s5 b5
    have b3 := Same.trans s4 b4
    have b2' := Same.trans s3 b3
    have b1 := Same.trans s2 b2'
    have ta1 := txD.mono (.of (st := st) s1o)
    refine ⟨st, o, _, [.lst [], .non, .tup (ls.map dlD), .lst (ls.map dlD ++ [.tup []]), .lst (.non :: ls.map dlD), .str "r0"], rfl, V7.same so, V7.ne mo, upd_same,
      TDs.cons (TD.lst (WD.ne m1) (b1 _ _ upd_same) TDs.nil) (TDs.cons TD.non (TDs.cons (TD.tup (V1.ne m2) (b2' _ _ upd_same) ta1) (TDs.cons (TD.lst (V4.ne m5) (b5 _ _ upd_same) (ta1.append (.cons (TD.tup (V2.ne m3) (b3 _ _ upd_same) TDs.nil) TDs.nil))) (TDs.cons (TD.lst (V6.ne m7) (b7 _ _ upd_same) (TDs.cons TD.non ta1)) (TDs.cons (TD.str "r0") TDs.nil))))),
      by show 1 ≤ 6; decide, by show 6 ≤ 1000; decide, fun vB dB HE tB mB WE eE => ?_⟩
    have noB : areDealings dB = false := by
      simp only [List.mem_cons, List.not_mem_nil, or_false] at mB
      rcases mB with rfl | rfl | rfl | rfl | rfl | rfl
      · rfl
      · rfl
      · rfl
      · exact noDeals (d := .tup []) (by simp) rfl
      · exact noDeals (d := .non) (by simp) rfl
      · rfl
    have eE' : ExM st HX HE := eD.trans ((ExM.same s1o).trans (ExM.ofS eE))
    have tE := tabs_well (V7.same so) eE (tD.ext s1o)
    have tOE := (tOD.mono (.of s1o)).mono eE
    clear b1 b2' b3 b4 b5 b6 b7 ta1 s1 s2 s3 s4 s5 s6 s7 s14 s16 s17 so V1 V2 V3 V4 V5 V6 V7 m1 m2 m3 m4 m5 m6 m7 mo mB
    refine ⟨tE, fun G1 g1' t1 => ⟨vB, rfl, vo, rfl, st, vB, vo, dB, dO, rfl, tB.monoM (.ofN g1'), tOE.monoM (.ofN g1'), fun ds' e => (noO.2 ds' e).elim, fun _ G2 s2 => .inl ⟨rfl, rfl, fun p1 G3 np1 s3 hp1 => ?_⟩, fun _ _ hf => (Bool.false_ne_true (noB.symm.trans hf)).elim⟩⟩
    refine ⟨by show 2 ≤ sizeLine; decide, fun p2 np2 => ?_⟩
    have s4 := same_new (o := .tup [.str "dealings", .non]) np2
    refine ⟨.tuple [.str "dealings", .none], .tuple [.str "dealings", .none], .tup (SqT.of (s4 _ _ hp1)) (.cons (.str _) (.cons .non .nil)), .tup (SqT.of upd_same) (.cons (.str _) (.cons .non .nil)), by decide +kernel, by decide +kernel, _, rfl, ?_⟩
    rw [SeqAt.eqv_refl _ (by decide +kernel)]
    refine iteF ?_
    have sF := Same.trans s2 (Same.trans s3 s4)
    have eF := eE'.trans ((ExM.ofN g1').trans (ExM.same sF))
    have tF := t1.ext sF
    have tdF := tdX.monoM eF
    have twF := twX.monoM eF
    have WF := (WE.monoN g1').same sF
    -- back
    refine ⟨.ref pd, rfl, .int (m : Nat), rfl, st, .ref pd, .int (m : Nat), dsD ls, .int m, rfl, tdF, .int _, no, fun ls' el _ => ?_⟩
    have el' := dsD_inj el
    subst el'
    refine ⟨fun hf => ?_, fun wx p H9 ew hwx np s9 hp9 => ?_⟩
    · exfalso
      rw [num_true (by omega) (by have := rank_lt hw; omega)] at hf
      exact Bool.false_ne_true hf.symm
    have ewx : wx = wv := rank_inj hwx hw (by have := D.int.inj ew; omega)
    subst ewx
    refine ⟨.ref pw, rfl, wP wx, wP wx, wD_Dp (wD_of (WF.ne np) hp9), wD_Dp (twF.mono (.of s9)), shaped_ints _, shaped_ints _, ?_⟩
    rw [wP_eqv]
    exact q _ ((ExM.ofS eHX).trans (eF.trans (ExM.same s9))) (tF.ext s9)
end
end As

namespace As
open PySem PySem.Spec PyProof.Rows L2
/-- what the top wrote of the class of such errors -/
def oexB (K : PySem.W.Frag) (C : Addr) : Bool := match K.lookup C with
  | some ⟨.type "type", _, .cls cd, sl⟩ => (match cd.mro, sl.toList with
    | .ref D :: bm, [_, _, _, _, some (.builtin n), _] => D == C && n == "ValueError.__new__" && !cd.hasDel && cd.hasDict && PySem.HandSPX.refsVE bm
    | _, _ => false)
  | _ => false
theorem oexB_ok {K : PySem.W.Frag} {C : Addr} (h : oexB K C = true) : ∃ nm q N bs bm sn sub ab col dd k0 k1 k2 k3 k5, K.lookup C = some (excClassObj nm q C N bs bm true sn sub ab col dd k0 k1 k2 k3 k5 "ValueError.__new__") ∧ PySem.HandSPX.refsVE bm = true := by
  unfold oexB at h
  split at h
  · rename_i dd cd sl ho
    split at h
    · rename_i D bm k0 k1 k2 k3 n k5 hm hs
      simp only [Bool.and_eq_true, beq_iff_eq, Bool.not_eq_true'] at h
      obtain ⟨⟨⟨⟨rfl, rfl⟩, hdel⟩, hdi⟩, ht⟩ := h
      obtain ⟨nm, bs, mro, ns, qn, hd, sn, sub, ab, col, del⟩ := cd
      dsimp only at hm hdel hdi
      subst hm hdel hdi
      obtain rfl : sl = #[k0, k1, k2, k3, some (.builtin "ValueError.__new__"), k5] := by
        obtain ⟨z⟩ := sl
        simp only at hs
        rw [hs]
      exact ⟨nm, qn, ns, bs, bm, sn, sub, ab, col, dd, k0, k1, k2, k3, k5, ho, ht⟩
    · cases h
  · cases h
abbrev sLaw : Stmt := topS 41
theorem scLaw : FnScope ["_law_script", "_law_cell"] ["_law_script"] (defScope sLaw) := ⟨rfl, rfl, rfl, by decide +kernel, rfl, by decide +kernel, by decide +kernel⟩
theorem cut_ints (ns : List Int) (lo hi : Option Int) : ∃ ms : List Int, cutV (ns.map V.int) lo hi = ms.map V.int ∧ ms.length ≤ ns.length := by
  unfold cutV
  rw [← List.map_drop, ← List.map_take]
  refine ⟨_, rfl, ?_⟩
  rw [List.length_take, List.length_drop]
  omega
section
variable {P : Program} {w : World} {K : PySem.W.Frag} {mg : Str → Option Value} {base : Heap}
def spLaw (K : PySem.W.Frag) (pL : Addr) : Sp := fun vs H Q _ => ∃ (a : Addr) (ns : List Int), vs = [.ref a] ∧ SqL K H a (ns.map V.int) ∧ ns.length ≤ 63 ∧ LamX.Tabs (tabsOf pL) H ∧ ∀ H', Q (.bl true) H'
theorem ok_law {f f1 f2 f3 pL : Addr} {fd fd1 fd2 fd3 : FuncData} {k : Nat} (F : Fun K "law" "law" sLaw f fd) (M : Mg mg) (G1 : FnOk P w K mg base CX0 k f1 fd1 ["_law_script", "_law_k"] (spCellAt K)) (g1 : mg "_law_cell_at" = some (.ref f1)) (k1 : PySem.W.keepIn K (.ref f1) = true) (b1 : Binds K fd1 ["_law_script", "_law_k"] [])
    (G2 : FnOk P w K mg base CX0 k f2 fd2 ["_law_cell"] spWell) (g2 : mg "_law_well" = some (.ref f2)) (k2 : PySem.W.keepIn K (.ref f2) = true) (b2 : Binds K fd2 ["_law_cell"] [])
    (G3 : FnOk P w K mg base CX0 k f3 fd3 ["_law_well_here"] (spRight pL)) (g3 : mg "_law_right" = some (.ref f3)) (k3 : PySem.W.keepIn K (.ref f3) = true) (b3 : Binds K fd3 ["_law_well_here"] []) :
    FnOk P w K mg base CX0 (k + 1) f fd ["_law_script"] (spLaw K pL) := by
  refine F.ok scLaw (fun vs H Q E h => ?_) (fun cdv A outer s H vs Q E hr h => ?_)
  · obtain ⟨a, ns, rfl, _⟩ := h
    rfl
  · obtain ⟨a, ns, rfl, hS, h63, tabs, q⟩ := h
    refine ⟨_, pss_cons (ps_for PassesOwn.never rfl (pi_list (pe_op op_cat (pe_lst (pa_cons (pe_call G1 hr (by rfl) g1 k1 b1 .nil pass0 (pa_cons (pv 0) (pa_cons pe_int pa_nil))) pa_nil)) (pe_slice sl_list (pv 0) (po_some pe_int) (po_some pe_int)))) (pg_name (i := 1) scLaw.nd rfl (.inl rfl))
        (pss_one (ps_if (pt_not (pt_val (pe_call G3 hr (by rfl) g3 k3 b3 .nil pass0 (pa_cons (pe_call G2 hr (by rfl) g2 k2 b2 .nil pass0 (pa_cons (pv 1) pa_nil)) pa_nil)))) (pss_one (ps_ret pe_bl)) pss_nil)))
      (pss_one (ps_ret pe_bl)), ?_⟩
    refine ⟨.ref a, rfl, a, 0, ns, rfl, hS, fun z => ⟨by show 1 ≤ sizeLine; decide, fun c1 m1 => ?_⟩⟩
    have s1 := same_new (o := .lst [.int z]) m1
    obtain ⟨ms, hms, hml⟩ := cut_ints ns (some 1) (some 8)
    refine ⟨.ref a, rfl, 1, rfl, 8, rfl, a, _, rfl, s1.seq hS, fun c2 m2 => ?_⟩
    rw [hms]
    have s2 := same_new (o := .lst (ms.map V.int)) m2
    refine ⟨c1, c2, _, _, rfl, rfl, s2 _ _ upd_same, upd_same, sl_of (by rw [List.length_map]; show 1 + ms.length ≤ _; omega), fun c3 m3 => ?_⟩
    have s3 := same_new (o := .lst ([.int z] ++ ms.map V.int)) m3
    have s13 := Same.trans s1 (Same.trans s2 s3)
    refine ⟨c3, rfl, ⟨_, SqL.of upd_same⟩, ?_⟩
    refine for_list (xs := [.int z] ++ ms.map V.int) (fun i σ H' => ∃ y1, σ = [some (.ref a), y1] ∧ H' c3 = some (.lst ([.int z] ++ ms.map V.int)) ∧ LamX.Tabs (tabsOf pL) H') ⟨none, rfl, upd_same, tabs.ext s13⟩ (fun i σ H' _ hP => ?_) (fun i x σ H4 hx hP => ?_) (fun σ H4 hP => q H4)
    · obtain ⟨_, _, h, _⟩ := hP
      exact SqL.of h
    · obtain ⟨y1, rfl, h4, t4⟩ := hP
      obtain ⟨m, rfl⟩ : ∃ m : Int, x = .int m := by
        have hm := List.mem_of_getElem? hx
        rw [show [V.int z] ++ ms.map V.int = (z :: ms).map V.int from rfl, List.mem_map] at hm
        obtain ⟨m, _, e⟩ := hm
        exact ⟨m, e.symm⟩
      refine ⟨.int m, rfl, m, rfl, fun p y z' np => ⟨p, rfl, ⟨_, _, _, upd_same⟩, t4.ext (same_new np), fun H5 e5 t5 => ⟨_, rfl, iteF ?_⟩⟩⟩
      have n3 : c3 ≠ p := ne_of_none h4 np
      exact ⟨_, rfl, e5.lst n3 (by rw [upd_ne n3]; exact h4), t5⟩
end
end As

namespace As
open PySem PySem.Spec PyProof.Rows L2
/-! ### what the top has written; the end -/
theorem all_mk {l : PySem.W.OpenLaw} {w : World} {K : PySem.W.Frag} {h : Heap} {mg : Str → Option Value} {fa : Addr} (X : K.In h) (G : h.Ns mainGlobals mg) (hfa : mg "law" = some (.ref fa))
    {f1 f2 f3 f4 f5 f6 f7 f8 f9 f10 f11 f12 f13 f14 f15 f16 f17 f18 f19 f20 f21 f22 f23 f24 f25 f26 f27 f28 f29 f30 CA CS CW CO CN cL pL fI ccI clI : Addr} {ocI kVI dcI pmI ctI ochI : Value} {odI anI odhI : Option Addr} {slI slhI : Array (Option Value)} {vshI : Array Value} {fileI : Str} {tfI : Tok} {oclI : Obj} {od1 an1 od2 an2 od3 an3 od4 an4 od5 an5 od6 an6 od7 an7 od8 an8 od9 an9 od10 an10 od11 an11 od12 an12 od13 an13 od14 an14 od15 an15 od16 an16 od17 an17 od18 an18 od19 an19 od20 an20 od21 an21 od22 an22 od23 an23 od24 an24 od25 an25 od26 an26 od27 an27 od28 an28 od29 an29 od30 an30 : Option Addr} {sl1 sl2 sl3 sl4 sl5 sl6 sl7 sl8 sl9 sl10 sl11 sl12 sl13 sl14 sl15 sl16 sl17 sl18 sl19 sl20 sl21 sl22 sl23 sl24 sl25 sl26 sl27 sl28 sl29 sl30 : Array (Option Value)} {oc1 kV1 dc1 pm1 ct1 cd1 oc2 kV2 dc2 pm2 ct2 cd2 oc3 kV3 dc3 pm3 ct3 cd3 oc4 kV4 dc4 pm4 ct4 cd4 oc5 kV5 dc5 pm5 ct5 cd5 oc6 kV6 dc6 pm6 ct6 cd6 oc7 kV7 dc7 pm7 ct7 cd7 oc8 kV8 dc8 pm8 ct8 cd8 oc9 kV9 dc9 pm9 ct9 cd9 oc10 kV10 dc10 pm10 ct10 cd10 oc11 kV11 dc11 pm11 ct11 cd11 oc12 kV12 dc12 pm12 ct12 cd12 oc13 kV13 dc13 pm13 ct13 cd13 oc14 kV14 dc14 pm14 ct14 cd14 oc15 kV15 dc15 pm15 ct15 cd15 oc16 kV16 dc16 pm16 ct16 cd16 oc17 kV17 dc17 pm17 ct17 cd17 oc18 kV18 dc18 pm18 ct18 cd18 oc19 kV19 dc19 pm19 ct19 cd19 oc20 kV20 dc20 pm20 ct20 cd20 oc21 kV21 dc21 pm21 ct21 cd21 oc22 kV22 dc22 pm22 ct22 cd22 oc23 kV23 dc23 pm23 ct23 cd23 oc24 kV24 dc24 pm24 ct24 cd24 oc25 kV25 dc25 pm25 ct25 cd25 oc26 kV26 dc26 pm26 ct26 cd26 oc27 kV27 dc27 pm27 ct27 cd27 oc28 kV28 dc28 pm28 ct28 cd28 oc29 kV29 dc29 pm29 ct29 oc30 kV30 dc30 pm30 ct30 cd30 : Value} {t1 t2 t3 : Tok}
    (a1 : PySem.W.nsIn K mainGlobals "is_whole" = some (some (.ref f1))) (l1 : K.lookup f1 = some ⟨oc1, od1, .func (PySem.W.fnOf "is_whole" "is_whole" (defArgs sIsWhole) (defBody sIsWhole) (defScope sIsWhole) .none kV1 dc1 pm1 an1 cd1 ct1), sl1⟩) (c1 : PySem.W.codeIn K cd1 "is_whole" = true) (k1 : PySem.W.keepIn K (.ref f1) = true)
    (a2 : PySem.W.nsIn K mainGlobals "is_number" = some (some (.ref f2))) (l2 : K.lookup f2 = some ⟨oc2, od2, .func (PySem.W.fnOf "is_number" "is_number" (defArgs sIsNumber) (defBody sIsNumber) (defScope sIsNumber) .none kV2 dc2 pm2 an2 cd2 ct2), sl2⟩) (c2 : PySem.W.codeIn K cd2 "is_number" = true) (k2 : PySem.W.keepIn K (.ref f2) = true)
    (a3 : PySem.W.nsIn K mainGlobals "is_box" = some (some (.ref f3))) (l3 : K.lookup f3 = some ⟨oc3, od3, .func (PySem.W.fnOf "is_box" "is_box" (defArgs sIsBox) (defBody sIsBox) (defScope sIsBox) .none kV3 dc3 pm3 an3 cd3 ct3), sl3⟩) (c3 : PySem.W.codeIn K cd3 "is_box" = true) (k3 : PySem.W.keepIn K (.ref f3) = true)
    (a4 : PySem.W.nsIn K mainGlobals "is_one_of" = some (some (.ref f4))) (l4 : K.lookup f4 = some ⟨oc4, od4, .func (PySem.W.fnOf "is_one_of" "is_one_of" (defArgs sIsOneOf) (defBody sIsOneOf) (defScope sIsOneOf) .none kV4 dc4 pm4 an4 cd4 ct4), sl4⟩) (c4 : PySem.W.codeIn K cd4 "is_one_of" = true) (k4 : PySem.W.keepIn K (.ref f4) = true)
    (a5 : PySem.W.nsIn K mainGlobals "is_step" = some (some (.ref f5))) (l5 : K.lookup f5 = some ⟨oc5, od5, .func (PySem.W.fnOf "is_step" "is_step" (defArgs sIsStep) (defBody sIsStep) (defScope sIsStep) .none kV5 dc5 pm5 an5 cd5 ct5), sl5⟩) (c5 : PySem.W.codeIn K cd5 "is_step" = true) (k5 : PySem.W.keepIn K (.ref f5) = true)
    (a6 : PySem.W.nsIn K mainGlobals "may_follow" = some (some (.ref f6))) (l6 : K.lookup f6 = some ⟨oc6, od6, .func (PySem.W.fnOf "may_follow" "may_follow" (defArgs sMayFollow) (defBody sMayFollow) (defScope sMayFollow) .none kV6 dc6 pm6 an6 cd6 ct6), sl6⟩) (c6 : PySem.W.codeIn K cd6 "may_follow" = true) (k6 : PySem.W.keepIn K (.ref f6) = true)
    (a7 : PySem.W.nsIn K mainGlobals "is_dealing" = some (some (.ref f7))) (l7 : K.lookup f7 = some ⟨oc7, od7, .func (PySem.W.fnOf "is_dealing" "is_dealing" (defArgs sIsDealing) (defBody sIsDealing) (defScope sIsDealing) .none kV7 dc7 pm7 an7 cd7 ct7), sl7⟩) (c7 : PySem.W.codeIn K cd7 "is_dealing" = true) (k7 : PySem.W.keepIn K (.ref f7) = true)
    (a8 : PySem.W.nsIn K mainGlobals "are_dealings" = some (some (.ref f8))) (l8 : K.lookup f8 = some ⟨oc8, od8, .func (PySem.W.fnOf "are_dealings" "are_dealings" (defArgs sAreDealings) (defBody sAreDealings) (defScope sAreDealings) .none kV8 dc8 pm8 an8 cd8 ct8), sl8⟩) (c8 : PySem.W.codeIn K cd8 "are_dealings" = true) (k8 : PySem.W.keepIn K (.ref f8) = true)
    (a9 : PySem.W.nsIn K mainGlobals "check_dealings" = some (some (.ref f9))) (l9 : K.lookup f9 = some ⟨oc9, od9, .func (PySem.W.fnOf "check_dealings" "check_dealings" (defArgs sCheckS) (defBody sCheckS) (defScope sCheckS) .none kV9 dc9 pm9 an9 cd9 ct9), sl9⟩) (c9 : PySem.W.codeIn K cd9 "check_dealings" = true) (k9 : PySem.W.keepIn K (.ref f9) = true)
    (a10 : PySem.W.nsIn K mainGlobals "turns_of" = some (some (.ref f10))) (l10 : K.lookup f10 = some ⟨oc10, od10, .func (PySem.W.fnOf "turns_of" "turns_of" (defArgs sTurns) (defBody sTurns) (defScope sTurns) .none kV10 dc10 pm10 an10 cd10 ct10), sl10⟩) (c10 : PySem.W.codeIn K cd10 "turns_of" = true) (k10 : PySem.W.keepIn K (.ref f10) = true)
    (a11 : PySem.W.nsIn K mainGlobals "weaving_fault" = some (some (.ref f11))) (l11 : K.lookup f11 = some ⟨oc11, od11, .func (PySem.W.fnOf "weaving_fault" "weaving_fault" (defArgs sWF) (defBody sWF) (defScope sWF) .none kV11 dc11 pm11 an11 cd11 ct11), sl11⟩) (c11 : PySem.W.codeIn K cd11 "weaving_fault" = true) (k11 : PySem.W.keepIn K (.ref f11) = true)
    (a12 : PySem.W.nsIn K mainGlobals "check_weaving" = some (some (.ref f12))) (l12 : K.lookup f12 = some ⟨oc12, od12, .func (PySem.W.fnOf "check_weaving" "check_weaving" (defArgs sCheckW) (defBody sCheckW) (defScope sCheckW) .none kV12 dc12 pm12 an12 cd12 ct12), sl12⟩) (c12 : PySem.W.codeIn K cd12 "check_weaving" = true) (k12 : PySem.W.keepIn K (.ref f12) = true)
    (a13 : PySem.W.nsIn K mainGlobals "how_many" = some (some (.ref f13))) (l13 : K.lookup f13 = some ⟨oc13, od13, .func (PySem.W.fnOf "how_many" "how_many" (defArgs sHow) (defBody sHow) (defScope sHow) .none kV13 dc13 pm13 an13 cd13 ct13), sl13⟩) (c13 : PySem.W.codeIn K cd13 "how_many" = true) (k13 : PySem.W.keepIn K (.ref f13) = true)
    (a14 : PySem.W.nsIn K mainGlobals "first_turn" = some (some (.ref f14))) (l14 : K.lookup f14 = some ⟨oc14, od14, .func (PySem.W.fnOf "first_turn" "first_turn" (defArgs sFirst) (defBody sFirst) (defScope sFirst) .none kV14 dc14 pm14 an14 cd14 ct14), sl14⟩) (c14 : PySem.W.codeIn K cd14 "first_turn" = true) (k14 : PySem.W.keepIn K (.ref f14) = true)
    (a15 : PySem.W.nsIn K mainGlobals "weaving_at" = some (some (.ref f15))) (l15 : K.lookup f15 = some ⟨oc15, od15, .func (PySem.W.fnOf "weaving_at" "weaving_at" (defArgs sAt) (defBody sAt) (defScope sAt) .none kV15 dc15 pm15 an15 cd15 ct15), sl15⟩) (c15 : PySem.W.codeIn K cd15 "weaving_at" = true) (k15 : PySem.W.keepIn K (.ref f15) = true)
    (a16 : PySem.W.nsIn K mainGlobals "number_of" = some (some (.ref f16))) (l16 : K.lookup f16 = some ⟨oc16, od16, .func (PySem.W.fnOf "number_of" "number_of" (defArgs sNum) (defBody sNum) (defScope sNum) .none kV16 dc16 pm16 an16 cd16 ct16), sl16⟩) (c16 : PySem.W.codeIn K cd16 "number_of" = true) (k16 : PySem.W.keepIn K (.ref f16) = true)
    (a17 : PySem.W.nsIn K mainGlobals "_law_cell_at" = some (some (.ref f17))) (l17 : K.lookup f17 = some ⟨oc17, od17, .func (PySem.W.fnOf "_law_cell_at" "_law_cell_at" (defArgs sCellAt) (defBody sCellAt) (defScope sCellAt) .none kV17 dc17 pm17 an17 cd17 ct17), sl17⟩) (c17 : PySem.W.codeIn K cd17 "_law_cell_at" = true) (k17 : PySem.W.keepIn K (.ref f17) = true)
    (a18 : PySem.W.nsIn K mainGlobals "_law_well" = some (some (.ref f18))) (l18 : K.lookup f18 = some ⟨oc18, od18, .func (PySem.W.fnOf "_law_well" "_law_well" (defArgs sWell) (defBody sWell) (defScope sWell) .none kV18 dc18 pm18 an18 cd18 ct18), sl18⟩) (c18 : PySem.W.codeIn K cd18 "_law_well" = true) (k18 : PySem.W.keepIn K (.ref f18) = true)
    (a19 : PySem.W.nsIn K mainGlobals "_law_draw" = some (some (.ref f19))) (l19 : K.lookup f19 = some ⟨oc19, od19, .func (PySem.W.fnOf "_law_draw" "_law_draw" (defArgs sDraw) (defBody sDraw) (defScope sDraw) .none kV19 dc19 pm19 an19 cd19 ct19), sl19⟩) (c19 : PySem.W.codeIn K cd19 "_law_draw" = true) (k19 : PySem.W.keepIn K (.ref f19) = true)
    (a20 : PySem.W.nsIn K mainGlobals "_law_one" = some (some (.ref f20))) (l20 : K.lookup f20 = some ⟨oc20, od20, .func (PySem.W.fnOf "_law_one" "_law_one" (defArgs sOne) (defBody sOne) (defScope sOne) .none kV20 dc20 pm20 an20 cd20 ct20), sl20⟩) (c20 : PySem.W.codeIn K cd20 "_law_one" = true) (k20 : PySem.W.keepIn K (.ref f20) = true)
    (a21 : PySem.W.nsIn K mainGlobals "_law_boxes" = some (some (.ref f21))) (l21 : K.lookup f21 = some ⟨oc21, od21, .func (PySem.W.fnOf "_law_boxes" "_law_boxes" (defArgs sBoxes) (defBody sBoxes) (defScope sBoxes) .none kV21 dc21 pm21 an21 cd21 ct21), sl21⟩) (c21 : PySem.W.codeIn K cd21 "_law_boxes" = true) (k21 : PySem.W.keepIn K (.ref f21) = true)
    (a22 : PySem.W.nsIn K mainGlobals "_law_dealing" = some (some (.ref f22))) (l22 : K.lookup f22 = some ⟨oc22, od22, .func (PySem.W.fnOf "_law_dealing" "_law_dealing" (defArgs sDealing) (defBody sDealing) (defScope sDealing) .none kV22 dc22 pm22 an22 cd22 ct22), sl22⟩) (c22 : PySem.W.codeIn K cd22 "_law_dealing" = true) (k22 : PySem.W.keepIn K (.ref f22) = true)
    (a23 : PySem.W.nsIn K mainGlobals "_law_dealings" = some (some (.ref f23))) (l23 : K.lookup f23 = some ⟨oc23, od23, .func (PySem.W.fnOf "_law_dealings" "_law_dealings" (defArgs sDealings) (defBody sDealings) (defScope sDealings) .none kV23 dc23 pm23 an23 cd23 ct23), sl23⟩) (c23 : PySem.W.codeIn K cd23 "_law_dealings" = true) (k23 : PySem.W.keepIn K (.ref f23) = true)
    (a24 : PySem.W.nsIn K mainGlobals "_law_weaving" = some (some (.ref f24))) (l24 : K.lookup f24 = some ⟨oc24, od24, .func (PySem.W.fnOf "_law_weaving" "_law_weaving" (defArgs sWeav) (defBody sWeav) (defScope sWeav) .none kV24 dc24 pm24 an24 cd24 ct24), sl24⟩) (c24 : PySem.W.codeIn K cd24 "_law_weaving" = true) (k24 : PySem.W.keepIn K (.ref f24) = true)
    (a25 : PySem.W.nsIn K mainGlobals "_law_told" = some (some (.ref f25))) (l25 : K.lookup f25 = some ⟨oc25, od25, .func (PySem.W.fnOf "_law_told" "_law_told" (defArgs sTold) (defBody sTold) (defScope sTold) .none kV25 dc25 pm25 an25 cd25 ct25), sl25⟩) (c25 : PySem.W.codeIn K cd25 "_law_told" = true) (k25 : PySem.W.keepIn K (.ref f25) = true)
    (a26 : PySem.W.nsIn K mainGlobals "_law_place" = some (some (.ref f26))) (l26 : K.lookup f26 = some ⟨oc26, od26, .func (PySem.W.fnOf "_law_place" "_law_place" (defArgs sPlace) (defBody sPlace) (defScope sPlace) .none kV26 dc26 pm26 an26 cd26 ct26), sl26⟩) (c26 : PySem.W.codeIn K cd26 "_law_place" = true) (k26 : PySem.W.keepIn K (.ref f26) = true)
    (a27 : PySem.W.nsIn K mainGlobals "_law_fault" = some (some (.ref f27))) (l27 : K.lookup f27 = some ⟨oc27, od27, .func (PySem.W.fnOf "_law_fault" "_law_fault" (defArgs sFault) (defBody sFault) (defScope sFault) .none kV27 dc27 pm27 an27 cd27 ct27), sl27⟩) (c27 : PySem.W.codeIn K cd27 "_law_fault" = true) (k27 : PySem.W.keepIn K (.ref f27) = true)
    (a28 : PySem.W.nsIn K mainGlobals "_law_spoilt" = some (some (.ref f28))) (l28 : K.lookup f28 = some ⟨oc28, od28, .func (PySem.W.fnOf "_law_spoilt" "_law_spoilt" (defArgs sSpo) (defBody sSpo) (defScope sSpo) .none kV28 dc28 pm28 an28 cd28 ct28), sl28⟩) (c28 : PySem.W.codeIn K cd28 "_law_spoilt" = true) (k28 : PySem.W.keepIn K (.ref f28) = true)
    (a29 : PySem.W.nsIn K mainGlobals "_law_right" = some (some (.ref f29))) (l29 : K.lookup f29 = some ⟨oc29, od29, .func (PySem.W.fnOf "_law_right" "_law_right" (defArgs sRight) (defBody sRight) (defScope sRight) .none kV29 dc29 pm29 an29 (.ref cL) ct29), sl29⟩) (c29 : PySem.W.codeIn K (.ref cL) "_law_right" = true) (k29 : PySem.W.keepIn K (.ref f29) = true)
    (a30 : PySem.W.nsIn K mainGlobals "law" = some (some (.ref f30))) (l30 : K.lookup f30 = some ⟨oc30, od30, .func (PySem.W.fnOf "law" "law" (defArgs sLaw) (defBody sLaw) (defScope sLaw) .none kV30 dc30 pm30 an30 cd30 ct30), sl30⟩) (c30 : PySem.W.codeIn K cd30 "law" = true) (k30 : PySem.W.keepIn K (.ref f30) = true)
    (z1 : PySem.W.nsIn K mainGlobals "isinstance" = some none)
    (z2 : PySem.W.nsIn K mainGlobals "int" = some none)
    (z3 : PySem.W.nsIn K mainGlobals "bool" = some none)
    (z4 : PySem.W.nsIn K mainGlobals "str" = some none)
    (z5 : PySem.W.nsIn K mainGlobals "tuple" = some none)
    (z6 : PySem.W.nsIn K mainGlobals "list" = some none)
    (z7 : PySem.W.nsIn K mainGlobals "len" = some none)
    (z8 : PySem.W.nsIn K mainGlobals "all" = some none)
    (z9 : PySem.W.nsIn K mainGlobals "sum" = some none)
    (z10 : PySem.W.nsIn K mainGlobals "enumerate" = some none)
    (z11 : PySem.W.nsIn K mainGlobals "range" = some none)
    (z12 : PySem.W.nsIn K mainGlobals "max" = some none)
    (z13 : PySem.W.nsIn K mainGlobals "min" = some none)
    (y1 : PySem.W.nsIn K mainGlobals "MOST_BOX" = some (some (.int 100000000 t1)))
    (y2 : PySem.W.nsIn K mainGlobals "MOST_STEPS" = some (some (.int 8 t2)))
    (y3 : PySem.W.nsIn K mainGlobals "MOST_DEALINGS" = some (some (.int 100 t3)))
    (xA : PySem.W.nsIn K mainGlobals "AloneError" = some (some (.ref CA)))
    (xS : PySem.W.nsIn K mainGlobals "NoDealings" = some (some (.ref CS)))
    (xW : PySem.W.nsIn K mainGlobals "NoWeaving" = some (some (.ref CW)))
    (xO : PySem.W.nsIn K mainGlobals "NoOrder" = some (some (.ref CO)))
    (xN : PySem.W.nsIn K mainGlobals "NoNumber" = some (some (.ref CN)))
    (xV : PySem.W.nsIn K mainGlobals "ValueError" = some none)
    (e1 : PySem.W.subIn K (.ref CA) (.type "BaseException") = some true)
    (e2 : PySem.W.hasDictIn K CA = true)
    (e3 : PySem.W.typeIn K (.ref CA) = some (.type "type"))
    (w5 : PySem.W.specialIn K (.builtin "object.__class__") "__get__" = some (some (.builtin "getset_descriptor.__get__")))
    (w6 : PySem.W.takesIn K (.builtin "object.__class__") = some true)
    (xBS : PySem.W.subIn K (.ref CS) (.type "BaseException") = some true)
    (xTS : PySem.W.typeIn K (.ref CS) = some (.type "type"))
    (e4S : PySem.W.subIn K (.ref CS) (.ref CA) = some true)
    (xKS : PySem.W.keepIn K (.ref CS) = true)
    (w1S : PySem.W.findIn K (.ref CS) "__getattribute__" = some (some (.builtin "BaseException.__getattribute__")))
    (w2S : PySem.W.findIn K (.ref CS) "__getattr__" = some none)
    (w3S : PySem.W.hasDictIn K CS = true)
    (w4S : PySem.W.findIn K (.ref CS) "__class__" = some (some (.builtin "object.__class__")))
    (w7S : PySem.W.mroIn K CS (.type "object") = some true)
    (xXS : PySem.W.excIn K CS [.type "ValueError", .type "Exception", .type "BaseException", .type "object"] "ValueError.__new__" = true)
    (xBW : PySem.W.subIn K (.ref CW) (.type "BaseException") = some true)
    (xTW : PySem.W.typeIn K (.ref CW) = some (.type "type"))
    (e4W : PySem.W.subIn K (.ref CW) (.ref CA) = some true)
    (xKW : PySem.W.keepIn K (.ref CW) = true)
    (w1W : PySem.W.findIn K (.ref CW) "__getattribute__" = some (some (.builtin "BaseException.__getattribute__")))
    (w2W : PySem.W.findIn K (.ref CW) "__getattr__" = some none)
    (w3W : PySem.W.hasDictIn K CW = true)
    (w4W : PySem.W.findIn K (.ref CW) "__class__" = some (some (.builtin "object.__class__")))
    (w7W : PySem.W.mroIn K CW (.type "object") = some true)
    (xBN : PySem.W.subIn K (.ref CN) (.type "BaseException") = some true)
    (xTN : PySem.W.typeIn K (.ref CN) = some (.type "type"))
    (e4N : PySem.W.subIn K (.ref CN) (.ref CA) = some true)
    (xKN : PySem.W.keepIn K (.ref CN) = true)
    (w1N : PySem.W.findIn K (.ref CN) "__getattribute__" = some (some (.builtin "BaseException.__getattribute__")))
    (w2N : PySem.W.findIn K (.ref CN) "__getattr__" = some none)
    (w3N : PySem.W.hasDictIn K CN = true)
    (w4N : PySem.W.findIn K (.ref CN) "__class__" = some (some (.builtin "object.__class__")))
    (w7N : PySem.W.mroIn K CN (.type "object") = some true)
    (xXN : PySem.W.excIn K CN [.type "ValueError", .type "Exception", .type "BaseException", .type "object"] "ValueError.__new__" = true)
    (iSS : PySem.W.kitOne K (.ref CS) (.ref CS) = some true)
    (iSW : PySem.W.kitOne K (.ref CS) (.ref CW) = some false)
    (iSO : PySem.W.kitOne K (.ref CS) (.ref CO) = some false)
    (iSN : PySem.W.kitOne K (.ref CS) (.ref CN) = some false)
    (iSV : PySem.W.kitOne K (.ref CS) (.type "ValueError") = some true)
    (iWS : PySem.W.kitOne K (.ref CW) (.ref CS) = some false)
    (iWW : PySem.W.kitOne K (.ref CW) (.ref CW) = some true)
    (iWO : PySem.W.kitOne K (.ref CW) (.ref CO) = some false)
    (iWN : PySem.W.kitOne K (.ref CW) (.ref CN) = some false)
    (iWV : PySem.W.kitOne K (.ref CW) (.type "ValueError") = some true)
    (j1 : PySem.W.findIn K (.ref CW) "__init__" = some (some (.ref fI)))
    (j2 : K.lookup fI = some ⟨ocI, odI, .func (fnS "__init__" "NoWeaving.__init__" (defArgs sIni) (defBody sIni) (defScope sIni) .none kVI dcI pmI anI (.ref ccI) ctI clI), slI⟩)
    (j3 : PySem.W.codeIn K (.ref ccI) "NoWeaving.__init__" = true)
    (j4 : K.lookup ccI = some ⟨ochI, odhI, .fields vshI, slhI⟩)
    (j5 : vshI[2]? = some (.str fileI tfI))
    (j6 : ((l.prog.main.file : Str) == fileI) = true)
    (j7 : (l.prog.main.scope.names.lookup ("super" : Str)).isSome = false)
    (j8 : K.lookup clI = some oclI)
    (j9 : oclI.data = .cell (some (.ref CW)))
    (j10 : PySem.W.nsIn K mainGlobals "super" = some none)
    (j11 : oexB K CW = true)
    (j12 : PySem.W.nsIn K cStatics "thirdparty.any" = some none)
    (j13 : PySem.W.ks_superIn K CW CW "__init__" = some (some (.builtin "ValueError.__init__")))
    (j14 : PySem.W.subIn K (.ref CW) (.type "ValueError") = some true)
    (j15 : PySem.W.subIn K (.ref CW) (.ref CW) = some true)
    (j16 : PySem.W.findIn K (.ref CW) "place" = some none)
    (j17 : PySem.W.typeIn K (.ref fI) = some (.type "function"))
    (j18 : PySem.W.findIn K (.ref CW) "__setattr__" = some (some (.builtin "object.__setattr__")))
    (tP : h.get? pL = some { cls := .none, data := .fields #[] })
    (nP : K.lookup pL = none)
    (hC : PySem.W.codeHdIn K cL pL = true)
    : LamX.LawAtS l w K CX0 14 63 "_law_script" mg fa h := by
  have e := hfa.symm.trans (PySem.W.mg_of X G a30)
  cases e
  have F1 := fun_mk (st := sIsWhole) l1 c1 k1
  have b1 := F1.binds (ps := ["thing"]) fun _ _ _ _ _ _ us hl => match us, hl with | [_], _ => rfl
  have g1 := PySem.W.mg_of X G a1
  have F2 := fun_mk (st := sIsNumber) l2 c2 k2
  have b2 := F2.binds (ps := ["thing", "many"]) fun _ _ _ _ _ _ us hl => match us, hl with | [_, _], _ => rfl
  have g2 := PySem.W.mg_of X G a2
  have F3 := fun_mk (st := sIsBox) l3 c3 k3
  have b3 := F3.binds (ps := ["thing"]) fun _ _ _ _ _ _ us hl => match us, hl with | [_], _ => rfl
  have g3 := PySem.W.mg_of X G a3
  have F4 := fun_mk (st := sIsOneOf) l4 c4 k4
  have b4 := F4.binds (ps := ["thing", "words"]) fun _ _ _ _ _ _ us hl => match us, hl with | [_, _], _ => rfl
  have g4 := PySem.W.mg_of X G a4
  have F5 := fun_mk (st := sIsStep) l5 c5 k5
  have b5 := F5.binds (ps := ["thing"]) fun _ _ _ _ _ _ us hl => match us, hl with | [_], _ => rfl
  have g5 := PySem.W.mg_of X G a5
  have F6 := fun_mk (st := sMayFollow) l6 c6 k6
  have b6 := F6.binds (ps := ["step", "ahead"]) fun _ _ _ _ _ _ us hl => match us, hl with | [_, _], _ => rfl
  have g6 := PySem.W.mg_of X G a6
  have F7 := fun_mk (st := sIsDealing) l7 c7 k7
  have b7 := F7.binds (ps := ["thing"]) fun _ _ _ _ _ _ us hl => match us, hl with | [_], _ => rfl
  have g7 := PySem.W.mg_of X G a7
  have F8 := fun_mk (st := sAreDealings) l8 c8 k8
  have b8 := F8.binds (ps := ["thing"]) fun _ _ _ _ _ _ us hl => match us, hl with | [_], _ => rfl
  have g8 := PySem.W.mg_of X G a8
  have F9 := fun_mk (st := sCheckS) l9 c9 k9
  have b9 := F9.binds (ps := ["thing"]) fun _ _ _ _ _ _ us hl => match us, hl with | [_], _ => rfl
  have g9 := PySem.W.mg_of X G a9
  have F10 := fun_mk (st := sTurns) l10 c10 k10
  have b10 := F10.binds (ps := ["dealings"]) fun _ _ _ _ _ _ us hl => match us, hl with | [_], _ => rfl
  have g10 := PySem.W.mg_of X G a10
  have F11 := fun_mk (st := sWF) l11 c11 k11
  have b11 := F11.binds (ps := ["dealings", "thing"]) fun _ _ _ _ _ _ us hl => match us, hl with | [_, _], _ => rfl
  have g11 := PySem.W.mg_of X G a11
  have F12 := fun_mk (st := sCheckW) l12 c12 k12
  have b12 := F12.binds (ps := ["dealings", "thing"]) fun _ _ _ _ _ _ us hl => match us, hl with | [_, _], _ => rfl
  have g12 := PySem.W.mg_of X G a12
  have F13 := fun_mk (st := sHow) l13 c13 k13
  have b13 := F13.binds (ps := ["dealings"]) fun _ _ _ _ _ _ us hl => match us, hl with | [_], _ => rfl
  have g13 := PySem.W.mg_of X G a13
  have F14 := fun_mk (st := sFirst) l14 c14 k14
  have b14 := F14.binds (ps := ["left", "number", "total"]) fun _ _ _ _ _ _ us hl => match us, hl with | [_, _, _], _ => rfl
  have g14 := PySem.W.mg_of X G a14
  have F15 := fun_mk (st := sAt) l15 c15 k15
  have b15 := F15.binds (ps := ["dealings", "number"]) fun _ _ _ _ _ _ us hl => match us, hl with | [_, _], _ => rfl
  have g15 := PySem.W.mg_of X G a15
  have F16 := fun_mk (st := sNum) l16 c16 k16
  have b16 := F16.binds (ps := ["dealings", "weaving"]) fun _ _ _ _ _ _ us hl => match us, hl with | [_, _], _ => rfl
  have g16 := PySem.W.mg_of X G a16
  have F17 := fun_mk (st := sCellAt) l17 c17 k17
  have b17 := F17.binds (ps := ["_law_script", "_law_k"]) fun _ _ _ _ _ _ us hl => match us, hl with | [_, _], _ => rfl
  have g17 := PySem.W.mg_of X G a17
  have F18 := fun_mk (st := sWell) l18 c18 k18
  have b18 := F18.binds (ps := ["_law_cell"]) fun _ _ _ _ _ _ us hl => match us, hl with | [_], _ => rfl
  have g18 := PySem.W.mg_of X G a18
  have F19 := fun_mk (st := sDraw) l19 c19 k19
  have b19 := F19.binds (ps := ["_law_well_here", "_law_many"]) fun _ _ _ _ _ _ us hl => match us, hl with | [_, _], _ => rfl
  have g19 := PySem.W.mg_of X G a19
  have F20 := fun_mk (st := sOne) l20 c20 k20
  have b20 := F20.binds (ps := ["_law_well_here", "_law_some"]) fun _ _ _ _ _ _ us hl => match us, hl with | [_, _], _ => rfl
  have g20 := PySem.W.mg_of X G a20
  have F21 := fun_mk (st := sBoxes) l21 c21 k21
  have b21 := F21.binds (ps := ["_law_well_here"]) fun _ _ _ _ _ _ us hl => match us, hl with | [_], _ => rfl
  have g21 := PySem.W.mg_of X G a21
  have F22 := fun_mk (st := sDealing) l22 c22 k22
  have b22 := F22.binds (ps := ["_law_well_here", "_law_boxes_here", "_law_most"]) fun _ _ _ _ _ _ us hl => match us, hl with | [_, _, _], _ => rfl
  have g22 := PySem.W.mg_of X G a22
  have F23 := fun_mk (st := sDealings) l23 c23 k23
  have b23 := F23.binds (ps := ["_law_well_here", "_law_many", "_law_most"]) fun _ _ _ _ _ _ us hl => match us, hl with | [_, _, _], _ => rfl
  have g23 := PySem.W.mg_of X G a23
  have F24 := fun_mk (st := sWeav) l24 c24 k24
  have b24 := F24.binds (ps := ["_law_well_here", "_law_dealings_here"]) fun _ _ _ _ _ _ us hl => match us, hl with | [_, _], _ => rfl
  have g24 := PySem.W.mg_of X G a24
  have F25 := fun_mk (st := sTold) l25 c25 k25
  have b25 := F25.binds (ps := ["_law_ask"]) fun _ _ _ _ _ _ us hl => match us, hl with | [_], _ => rfl
  have g25 := PySem.W.mg_of X G a25
  have F26 := fun_mk (st := sPlace) l26 c26 k26
  have b26 := F26.binds (ps := ["_law_e"]) fun _ _ _ _ _ _ us hl => match us, hl with | [_], _ => rfl
  have g26 := PySem.W.mg_of X G a26
  have F27 := fun_mk (st := sFault) l27 c27 k27
  have b27 := F27.binds (ps := ["_law_dealings_here", "_law_thing"]) fun _ _ _ _ _ _ us hl => match us, hl with | [_, _], _ => rfl
  have g27 := PySem.W.mg_of X G a27
  have F28 := fun_mk (st := sSpo) l28 c28 k28
  have b28 := F28.binds (ps := ["_law_well_here", "_law_dealings_here", "_law_weaving_here"]) fun _ _ _ _ _ _ us hl => match us, hl with | [_, _, _], _ => rfl
  have g28 := PySem.W.mg_of X G a28
  have F29 := fun_mk (st := sRight) l29 c29 k29
  have b29 := F29.binds (ps := ["_law_well_here"]) fun _ _ _ _ _ _ us hl => match us, hl with | [_], _ => rfl
  have g29 := PySem.W.mg_of X G a29
  have F30 := fun_mk (st := sLaw) l30 c30 k30
  have M : Mg mg := ⟨PySem.W.mg_none_of X G z1, PySem.W.mg_none_of X G z2, PySem.W.mg_none_of X G z3, PySem.W.mg_none_of X G z4, PySem.W.mg_none_of X G z5, PySem.W.mg_none_of X G z6, PySem.W.mg_none_of X G z7, PySem.W.mg_none_of X G z8, PySem.W.mg_none_of X G z9, PySem.W.mg_none_of X G z10, PySem.W.mg_none_of X G z11, PySem.W.mg_none_of X G z12, PySem.W.mg_none_of X G z13, ⟨_, PySem.W.mg_of X G y1⟩, ⟨_, PySem.W.mg_of X G y2⟩, ⟨_, PySem.W.mg_of X G y3⟩⟩
  have ES : Er K mg "NoDealings" CA CS := ⟨PySem.W.mg_of X G xS, xXS, xKS, xBS, xTS, PySem.W.exm_ref e1 e2 e3 e4S, ⟨w1S, w2S, xBS, w3S, w4S, w5, w6, w7S⟩⟩
  have T : Tl K mg CA CS CW CO CN := ⟨PySem.W.mg_of X G xA, PySem.W.mg_of X G xS, PySem.W.mg_of X G xW, PySem.W.mg_of X G xO, PySem.W.mg_of X G xN, PySem.W.mg_none_of X G xV⟩
  have KS : KiW K CS CA CS CW CO CN true false := ⟨PySem.W.exm_ref e1 e2 e3 e4S, ⟨w1S, w2S, xBS, w3S, w4S, w5, w6, w7S⟩, iSS, iSW, iSO, iSN, iSV⟩
  have EN : Er K mg "NoNumber" CA CN := ⟨PySem.W.mg_of X G xN, xXN, xKN, xBN, xTN, PySem.W.exm_ref e1 e2 e3 e4N, ⟨w1N, w2N, xBN, w3N, w4N, w5, w6, w7N⟩⟩
  have KW : KiW K CW CA CS CW CO CN false true := ⟨PySem.W.exm_ref e1 e2 e3 e4W, ⟨w1W, w2W, xBW, w3W, w4W, w5, w6, w7W⟩, iWS, iWW, iWO, iWN, iWV⟩
  have TO : OexC K CW := ⟨oexB_ok j11, j18, xBW, xTW, xKW⟩
  have TX : XfC K CW := ⟨w1W, w2W, xBW, w3W⟩
  refine ⟨PySem.W.fnOf "law" "law" (defArgs sLaw) (defBody sLaw) (defScope sLaw) .none kV30 dc30 pm30 an30 cd30 ct30, [(cL, pL)], spLaw K pL, fun p hp => by rw [List.mem_singleton.mp hp]; exact tP, fun p hp => by rw [List.mem_singleton.mp hp]; exact nP, fun p hp => by rw [List.mem_singleton.mp hp]; exact PySem.W.codeHd_of_K X hC, fun s v => .of_eq rfl,
    fun H a ns hl _ hT hS => ⟨a, ns, rfl, hS, hl, fun p hp => by rw [List.mem_singleton.mp hp]; exact LamX.TabS.nil (hT (cL, pL) (List.mem_singleton.mpr rfl)), fun _ => rfl⟩, fun base _ _ hTB => ?_⟩
  have TB : LamX.TabB base mg cL pL := hTB (cL, pL) (List.mem_singleton.mpr rfl)
  have W1 := fun k => ok_is_whole (P := l.prog) (w := w) (base := base) (k := k) F1 M
  have W2 := fun k => ok_is_number (k := k + 1) F2 M (W1 k) g1 k1 b1
  have W3 := fun k => ok_is_box (k := k + 2) F3 M (W2 k) g2 k2 b2
  have W4 := fun k => ok_is_one_of (P := l.prog) (w := w) (base := base) (k := k) F4 M
  have W5 := fun k => ok_is_step (k := k + 3) F5 M (W4 (k + 2)) g4 k4 b4 (W3 k) g3 k3 b3
  have W6 := fun k => ok_may_follow (P := l.prog) (w := w) (base := base) (k := k) F6 M
  have W7 := ok_is_dealing (k := 4) F7 M (W5 0) g5 k5 b5 (W6 3) g6 k6 b6
  have W8 := ok_are_dealings (k := 5) F8 M W7 g7 k7 b7
  have W9 := ok_checkS (k := 6) F9 ES W8 g8 k8 b8
  have W10 := ok_turns (P := l.prog) (w := w) (base := base) (k := 6) F10 M
  have W11 := ok_wf (k := 7) F11 M W9 g9 k9 b9 (W2 5) g2 k2 b2 W10 g10 k10 b10
  have W9' := fun k => ok_checkS (k := k + 6) F9 ES (ok_are_dealings (k := k + 5) F8 M (ok_is_dealing (k := k + 4) F7 M (W5 k) g5 k5 b5 (W6 (k + 3)) g6 k6 b6) g7 k7 b7) g8 k8 b8
  have TU := fun k => ok_turns (P := l.prog) (w := w) (base := base) (k := k) F10 M
  have HW := fun k => ok_how (k := k + 7) F13 M (W9' k) g9 k9 b9 (TU (k + 6)) g10 k10 b10
  have WF := fun k => ok_wf (k := k + 7) F11 M (W9' k) g9 k9 b9 (W2 (k + 5)) g2 k2 b2 (TU (k + 6)) g10 k10 b10
  have NI : Nw l.prog w K mg base CW 7 := ⟨⟨fI, _, ok_ini (k := 6) j2 j3 j4 j5 j6 j7 j8 j9 (PySem.W.mg_none_of X G j10) TO j12 j13 j14 j15 j16, j1, j17, .all fun us hl => match us, hl with | [_, _], _ => rfl⟩, TO, PySem.W.mg_of X G xW⟩
  have CWA := ok_checkA (k := 7) F12 M NI (WF 0) g11 k11 b11
  have NU := ok_numA (k := 9) F16 M CWA g12 k12 b12 (TU 8) g10 k10 b10 (HW 1) g13 k13 b13
  have FI := ok_first (P := l.prog) (w := w) (base := base) (k := 8) F14 M
  have AT := ok_at (k := 9) F15 M EN (HW 1) g13 k13 b13 (W2 7) g2 k2 b2 (TU 8) g10 k10 b10 FI g14 k14 b14
  have D := fun k => ok_draw (P := l.prog) (w := w) (base := base) (k := k) F19 M
  have O1 := fun k => ok_one (k := k + 1) F20 M (D k) g19 k19 b19
  have B1 := ok_boxes (k := 10) F21 M (D 9) g19 k19 b19
  have D1 := ok_dealing (k := 10) F22 M (D 9) g19 k19 b19 (O1 8) g20 k20 b20
  have D2 := ok_dealings (k := 11) F23 M B1 g21 k21 b21 D1 g22 k22 b22
  have R1 := ok_weav (k := 11) F24 M (D 10) g19 k19 b19
  have S1 := ok_spo (k := 11) F28 M (D 10) g19 k19 b19 (O1 9) g20 k20 b20
  have A1 := ok_fault (P := l.prog) (w := w) (base := base) (k := 11) F27 M
  have R := ok_right (k := 10) l29 c29 F25 g25 b25 TB M T KS KW TX j16 l26 c26 g26 k26 b26 ⟨f19, _, D 11, g19, k19, b19⟩ ⟨f23, _, D2, g23, k23, b23⟩ ⟨f24, _, R1, g24, k24, b24⟩ ⟨f28, _, S1, g28, k28, b28⟩ ⟨f20, _, O1 10, g20, k20, b20⟩ ⟨f27, _, A1, g27, k27, b27⟩ ⟨f16, _, NU, g16, k16, b16⟩ ⟨f11, _, WF 2, g11, k11, b11⟩ ⟨f15, _, AT, g15, k15, b15⟩
  exact ok_law (k := 13) F30 M (ok_cell_at F17 M) g17 k17 b17 (ok_well F18 M) g18 k18 b18 R g29 k29 b29
end As
open PySem PySem.W PyProof.Rows
set_option maxHeartbeats 0 in
theorem PySem.Challenge.cw_asifalone_k16_number_of_what_is_none_holds : PySem.Challenge.rw_asifalone_k16_number_of_what_is_none.Holds := by
  w_on; o_law; k_head; (case hw => w_witness2)
  k_fill
  refine LamX.walk_ofTs (l := PySem.Challenge.rw_asifalone_k16_number_of_what_is_none) (n := 63) (k := 14) (x := "_law_script") (CX := fun _ => L2.CX0) rfl (by decide) rfl ⟨rfl, by decide, by decide⟩ (fun w h Y => PySem.W.km_in_of Y) ?F (fun _ _ _ _ _ h => h)
  case F =>
    intro w mg fa h Y KX G hmg
    refine' As.all_mk KX G hmg ?a1 ?l1 ?c1 ?k1 ?a2 ?l2 ?c2 ?k2 ?a3 ?l3 ?c3 ?k3 ?a4 ?l4 ?c4 ?k4 ?a5 ?l5 ?c5 ?k5 ?a6 ?l6 ?c6 ?k6 ?a7 ?l7 ?c7 ?k7 ?a8 ?l8 ?c8 ?k8 ?a9 ?l9 ?c9 ?k9 ?a10 ?l10 ?c10 ?k10 ?a11 ?l11 ?c11 ?k11 ?a12 ?l12 ?c12 ?k12 ?a13 ?l13 ?c13 ?k13 ?a14 ?l14 ?c14 ?k14 ?a15 ?l15 ?c15 ?k15 ?a16 ?l16 ?c16 ?k16 ?a17 ?l17 ?c17 ?k17 ?a18 ?l18 ?c18 ?k18 ?a19 ?l19 ?c19 ?k19 ?a20 ?l20 ?c20 ?k20 ?a21 ?l21 ?c21 ?k21 ?a22 ?l22 ?c22 ?k22 ?a23 ?l23 ?c23 ?k23 ?a24 ?l24 ?c24 ?k24 ?a25 ?l25 ?c25 ?k25 ?a26 ?l26 ?c26 ?k26 ?a27 ?l27 ?c27 ?k27 ?a28 ?l28 ?c28 ?k28 ?a29 ?l29 ?c29 ?k29 ?a30 ?l30 ?c30 ?k30 ?z1 ?z2 ?z3 ?z4 ?z5 ?z6 ?z7 ?z8 ?z9 ?z10 ?z11 ?z12 ?z13 ?y1 ?y2 ?y3 ?xA ?xS ?xW ?xO ?xN ?xV ?e1 ?e2 ?e3 ?w5 ?w6 ?xBS ?xTS ?e4S ?xKS ?w1S ?w2S ?w3S ?w4S ?w7S ?xXS ?xBW ?xTW ?e4W ?xKW ?w1W ?w2W ?w3W ?w4W ?w7W ?xBN ?xTN ?e4N ?xKN ?w1N ?w2N ?w3N ?w4N ?w7N ?xXN ?iSS ?iSW ?iSO ?iSN ?iSV ?iWS ?iWW ?iWO ?iWN ?iWV ?j1 ?j2 ?j3 ?j4 ?j5 ?j6 ?j7 ?j8 ?j9 ?j10 ?j11 ?j12 ?j13 ?j14 ?j15 ?j16 ?j17 ?j18 ?tP ?nP ?hC
    (case tP => exact PySem.W.km_tabs_of Y _ (List.mem_cons_self ..))
    (case a1 => k_is); (case l1 => k_is); (case c1 => k_is); (case k1 => k_is); (case a2 => k_is); (case l2 => k_is); (case c2 => k_is); (case k2 => k_is); (case a3 => k_is); (case l3 => k_is); (case c3 => k_is); (case k3 => k_is); (case a4 => k_is); (case l4 => k_is); (case c4 => k_is); (case k4 => k_is); (case a5 => k_is); (case l5 => k_is); (case c5 => k_is); (case k5 => k_is); (case a6 => k_is); (case l6 => k_is); (case c6 => k_is); (case k6 => k_is); (case a7 => k_is); (case l7 => k_is); (case c7 => k_is); (case k7 => k_is); (case a8 => k_is); (case l8 => k_is); (case c8 => k_is); (case k8 => k_is); (case a9 => k_is); (case l9 => k_is); (case c9 => k_is); (case k9 => k_is); (case a10 => k_is); (case l10 => k_is); (case c10 => k_is); (case k10 => k_is); (case a11 => k_is); (case l11 => k_is); (case c11 => k_is); (case k11 => k_is); (case a12 => k_is); (case l12 => k_is); (case c12 => k_is); (case k12 => k_is); (case a13 => k_is); (case l13 => k_is); (case c13 => k_is); (case k13 => k_is); (case a14 => k_is); (case l14 => k_is); (case c14 => k_is); (case k14 => k_is); (case a15 => k_is); (case l15 => k_is); (case c15 => k_is); (case k15 => k_is); (case a16 => k_is); (case l16 => k_is); (case c16 => k_is); (case k16 => k_is); (case a17 => k_is); (case l17 => k_is); (case c17 => k_is); (case k17 => k_is); (case a18 => k_is); (case l18 => k_is); (case c18 => k_is); (case k18 => k_is); (case a19 => k_is); (case l19 => k_is); (case c19 => k_is); (case k19 => k_is); (case a20 => k_is); (case l20 => k_is); (case c20 => k_is); (case k20 => k_is); (case a21 => k_is); (case l21 => k_is); (case c21 => k_is); (case k21 => k_is); (case a22 => k_is); (case l22 => k_is); (case c22 => k_is); (case k22 => k_is); (case a23 => k_is); (case l23 => k_is); (case c23 => k_is); (case k23 => k_is); (case a24 => k_is); (case l24 => k_is); (case c24 => k_is); (case k24 => k_is); (case a25 => k_is); (case l25 => k_is); (case c25 => k_is); (case k25 => k_is); (case a26 => k_is); (case l26 => k_is); (case c26 => k_is); (case k26 => k_is); (case a27 => k_is); (case l27 => k_is); (case c27 => k_is); (case k27 => k_is); (case a28 => k_is); (case l28 => k_is); (case c28 => k_is); (case k28 => k_is); (case a29 => k_is); (case l29 => k_is); (case c29 => k_is); (case k29 => k_is); (case a30 => k_is); (case l30 => k_is); (case c30 => k_is); (case k30 => k_is); (case z1 => k_is); (case z2 => k_is); (case z3 => k_is); (case z4 => k_is); (case z5 => k_is); (case z6 => k_is); (case z7 => k_is); (case z8 => k_is); (case z9 => k_is); (case z10 => k_is); (case z11 => k_is); (case z12 => k_is); (case z13 => k_is); (case y1 => k_is); (case y2 => k_is); (case y3 => k_is); (case xA => k_is); (case xS => k_is); (case xW => k_is); (case xO => k_is); (case xN => k_is); (case xV => k_is); (case e1 => k_is); (case e2 => k_is); (case e3 => k_is); (case w5 => k_is); (case w6 => k_is); (case xBS => k_is); (case xTS => k_is); (case e4S => k_is); (case xKS => k_is); (case w1S => k_is); (case w2S => k_is); (case w3S => k_is); (case w4S => k_is); (case w7S => k_is); (case xXS => k_exc); (case xBW => k_is); (case xTW => k_is); (case e4W => k_is); (case xKW => k_is); (case w1W => k_is); (case w2W => k_is); (case w3W => k_is); (case w4W => k_is); (case w7W => k_is); (case xBN => k_is); (case xTN => k_is); (case e4N => k_is); (case xKN => k_is); (case w1N => k_is); (case w2N => k_is); (case w3N => k_is); (case w4N => k_is); (case w7N => k_is); (case xXN => k_exc); (case iSS => first | k_is | kernel_rfl | rfl); (case iSW => first | k_is | kernel_rfl | rfl); (case iSO => first | k_is | kernel_rfl | rfl); (case iSN => first | k_is | kernel_rfl | rfl); (case iSV => first | k_is | kernel_rfl | rfl); (case iWS => first | k_is | kernel_rfl | rfl); (case iWW => first | k_is | kernel_rfl | rfl); (case iWO => first | k_is | kernel_rfl | rfl); (case iWN => first | k_is | kernel_rfl | rfl); (case iWV => first | k_is | kernel_rfl | rfl); (case j1 => k_is); (case j2 => first | k_is | kernel_rfl | rfl); (case j3 => k_is); (case j4 => first | k_is | kernel_rfl | rfl); (case j5 => rfl); (case j6 => first | k_is | kernel_rfl | rfl); (case j7 => first | k_is | kernel_rfl | rfl); (case j8 => first | k_is | kernel_rfl | rfl); (case j9 => first | k_is | kernel_rfl | rfl); (case j10 => k_is); (case j11 => first | k_is | kernel_rfl | rfl); (case j12 => k_is); (case j13 => first | k_is | kernel_rfl | rfl); (case j14 => k_is); (case j15 => k_is); (case j16 => k_is); (case j17 => k_is); (case j18 => k_is); (case nP => first | k_is | kernel_rfl | rfl); (case hC => first | k_is | kernel_rfl | rfl)
