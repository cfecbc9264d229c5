import PyProof.Rows.All
import Wide.All
import OpenK.AllK
import Wide.FinOn
import HandS.ForMost
import HandS.Walk
import HandS.Deep
import HandS.TupAny
import HandS.IsInst
import KE.GoesEnum
import KE.KRevSl
import HandS.Style
import HandS.ForExc
import HandS.ExcIs
import HandS.SortInts
import HandS.Conv
import KE.KSortedM
import HandS.Evl
import HandS.Lambda
import HandS.EndTab
import HandS.WordsExc
import HandS.Dict
import HandS.TupMul
import HandS.Small
import PySem.Challenge.RW_asifalone_k13_how_many_weavings
set_option Elab.async false
set_option linter.all false
set_option maxRecDepth 100000
set_option maxHeartbeats 4000000
/-! rules that the layer lacks: enumerate of a tuple, in over a tuple of data, t[::-1] of a tuple -/
namespace PySem
open Sem (wp)
set_option maxHeartbeats 4000000 in
theorem as_meets_enum {v : Value} {o : Obj} {H : Heap → Prop} (B : Begins v o H) :
    Meets (Builtin.«enumerate.__new__» ⟨[.type "enumerate", v], []⟩) (fun _ R s => H s.heap ∧
      R (.ok (.ret (.ref (s.heap.push o).objs.size))) { s with heap := (s.heap.push o).push { cls := .type "enumerate", data := .fields #[.none, .bool false, .ref s.heap.objs.size, rawInt 0, .none, .none] } }) :=
  .of_wp fun prog w A R s h => by
    obtain ⟨hpk, g, d, tkk, osk⟩ := s; obtain ⟨h1, h⟩ := h
    have hsub := sub_enumerate
    have q1k : ∀ {A' : Around} {E : Value → Shared → Prop} {Q : Value → Shared → Prop}, Q (.ref hpk.objs.size) ⟨hpk.push o, g, d, tkk, osk⟩ → wpAny (model prog w) A' (pyIter v) Q E ⟨hpk, g, d, tkk, osk⟩ :=
      fun q => B.iter prog w _ _ ⟨hpk, g, d, tkk, osk⟩ _ h1 q
    wp_walk using q1k
    refine wpAny_stack_any fun st => wpAny_pure ?_
    split
    · rename_i c _ _ _ _ _
      cases (c == Value.type "enumerate")
      · wp_walk using q1k
        exact ⟨_, rfl, h⟩
      · wp_walk using q1k
        exact ⟨_, rfl, h⟩
    · wp_walk using q1k
      exact ⟨_, rfl, h⟩
section
variable {prog : Program} {w : World} {A : Around} {E : Value → Shared → Prop} {s : Shared}
theorem as_call_enum {v : Value} {o : Obj} {H : Heap → Prop} {Q : Value → Shared → Prop} (B : Begins v o H) (h1 : H s.heap)
    (h : ∀ h', IsEnum h' (s.heap.objs.size + 1) s.heap.objs.size 0 .none → h'.get? s.heap.objs.size = some o → h'.objs.size = s.heap.objs.size + 2 →
      (∀ b o, s.heap.get? b = some o → h'.get? b = some o) → Q (.ref (s.heap.objs.size + 1)) { s with heap := h' }) :
    wpAny (model prog w) A (call (.type "enumerate") [v]) Q E s := by
  refine callType_new F.called_enumerate (by decide) (F.typeCall_enumerate_1 _) (F.newCall_enumerate_1 _) (fun obj => F.args_object_init_2 obj _) F.entry_enumerate_new
    (as_meets_enum B) ⟨h1, ?_⟩
  have hzk : (s.heap.push o).objs.size = s.heap.objs.size + 1 := Heap.size_push ..
  show _ ∧ _
  rw [hzk]
  have hek : IsEnum ((s.heap.push o).push { cls := .type "enumerate", data := .fields #[.none, .bool false, .ref s.heap.objs.size, rawInt 0, .none, .none] }) (s.heap.objs.size + 1) s.heap.objs.size 0 .none := by
    have := Heap.get?_push_size (s.heap.push o) (o := { cls := .type "enumerate", data := .fields #[.none, .bool false, .ref s.heap.objs.size, rawInt 0, .none, .none] }) rfl
    rw [hzk] at this; exact this
  refine ⟨⟨_, hek, rfl⟩, h _ hek (Heap.get?_push_of_some _ (Heap.get?_push_size _ B.free)) (by rw [Heap.size_push, hzk]) fun b o x => Heap.get?_push_of_some _ (Heap.get?_push_of_some _ x)⟩
end
end PySem
namespace L2
open PySem PySem.Spec PyProof.Rows
/-! ### enumerate(tuple) -/
def ItEt (K : PySem.W.Frag) (a : Addr) : It :=
  ⟨fun i H => ∃ (xs : List V) (x : V), SqT K H a xs ∧ xs[i]? = some x, fun i H v H' => ∃ T x, v = .ref T ∧ H T = none ∧ H' = upd H T (.tup [.int (i : Nat), x]) ∧ ∀ xs, SqT K H a xs → xs[i]? = some x, fun i H => ∃ xs : List V, SqT K H a xs ∧ xs.length = i⟩
theorem turn_enumT {P : Program} {w : World} {K : PySem.W.Frag} {elts : List Expr} {kk : Nat} {tpos : Pos} (a e it : Addr) :
    Turn P w K (.Tuple elts kk tpos) (ItEt K a) [e, it] e (fun i h => (∃ oldk, IsEnum h e it ((i : Nat) : Int) oldk) ∧ h.IsTupleIter it a i ∧ e ≠ it ∧ a ≠ it ∧ a ≠ e) where
  mem := by simp
  obj := fun i h st b hbk => by
    obtain ⟨⟨oldk, hek⟩, ⟨o, ho, hc, hd⟩, _⟩ := st
    have ek' : b = e ∨ b = it := by simpa using hbk
    rcases ek' with z | z
    · rw [z]; exact ⟨_, hek, fun v q => nomatch q⟩
    · rw [z]; exact ⟨o, ho, fun v q => by rw [hd] at q; cases q⟩
  keep := fun i h h' st k => let ⟨⟨oldk, hek⟩, hik, hnek⟩ := st; ⟨⟨oldk, k e (by simp) _ hek⟩, hik.at fun o q => k it (by simp) o q, hnek⟩
  item := by
    intro X hPk hwk hKk hc i pinsk s σ H E Ik hfk st hgk
    subst hPk hwk hKk
    obtain ⟨⟨oldk, hek⟩, hitk, hnek, hai, hae⟩ := st
    obtain ⟨xs, x, hqk, hxk⟩ := hgk
    obtain ⟨itsk, rvk, p, hzk⟩ := Ik.tuple hqk
    obtain ⟨u, huk, ruk⟩ := rvk.get hxk
    have helk : e < s.heap.objs.size := Heap.lt_size hek
    have hilk : it < s.heap.objs.size := by obtain ⟨_, q, _⟩ := hitk; exact Heap.lt_size q
    have p' : s.heap.IsTuple a itsk.toArray := p
    have hlt : i < itsk.toArray.size := by
      have := (List.getElem?_eq_some_iff.mp huk).1
      simpa using this
    refine wpAny_pyNext_enum_itemD (Draws.tuple (A := X.A.in1) (Ik.ok.hd hc) it a hai itsk.toArray) hek ⟨hitk, p'⟩ hlt hnek (by simp only [List.mem_cons, List.mem_singleton, List.not_mem_nil, or_false, not_or]; exact ⟨hnek, fun z => hae z.symm⟩) fun x' h' tkk hx' ho st' hTk hszk hkk => ?_
    have exk : x' = u := by
      have q1k : itsk[i]? = some x' := by simpa using hx'
      exact Option.some.inj (q1k.symm.trans huk)
    subst exk
    obtain ⟨hit', _⟩ := st'
    refine ⟨_, rfl, wpAny_letOwnedTupleGo_enum (s := { s with heap := h', toks := tkk + 1 }) ho fun h'' he' sbk => ?_⟩
    have hT2 : h''.get? s.heap.objs.size = some { cls := .type "tuple", data := .seq #[.int i tkk, x'] } := (sbk.2 _ (Nat.ne_of_gt helk)).trans hTk
    have newk : ObjOk X.prog X.w (upd H s.heap.objs.size (.tup [.int (i : Nat), x])) h'' s.heap.objs.size (.tup [.int (i : Nat), x]) :=
      ⟨by show 2 ≤ sizeLine; decide, [.int i tkk, x'], .cons ⟨_, rfl⟩ (.cons ruk .nil), ⟨_, hT2, rfl, _, rfl⟩⟩
    have I1k : Inv X pinsk σ (upd H s.heap.objs.size (.tup [.int (i : Nat), x])) { s with heap := h'', toks := tkk + 1 } :=
      Ik.turnedNew (ch := [e, it]) (fun b ob hbk q => (sbk.2 b (fun z => hbk (by simp [z]))).trans (hkk b ob (fun z => hbk (by simp [z])) (fun z => hbk (by simp [z])) q)) hfk (Nat.le_refl _) newk
    refine ⟨.ref s.heap.objs.size, _, I1k, rfl, ⟨_, x, rfl, Ik.hok.fresh (Nat.le_refl _), rfl, fun ys hy => by rw [Ik.tuple_inj hy hqk]; exact hxk⟩, ⟨⟨x', ?_⟩, hit'.at fun o q => (sbk.2 it (Ne.symm hnek)).trans q, hnek, hai, hae⟩, fun b hbk => ?_⟩
    · have e1 : ((i + 1 : Nat) : Int) = (i : Int) + 1 := by omega
      rw [e1]; exact he'
    · have hbk' : b < s.heap.objs.size := by
        have ek' : b = e ∨ b = it := by simpa using hbk
        rcases ek' with z | z
        · rw [z]; exact helk
        · rw [z]; exact hilk
      rw [upd_ne (Nat.ne_of_lt hbk')]
      exact (hfk b hbk).1
  done := by
    intro X hPk hwk hKk hc i pinsk s σ H E Ik hfk st hgk
    subst hPk hwk hKk
    obtain ⟨⟨oldk, hek⟩, hitk, hnek, hai, hae⟩ := st
    obtain ⟨xs, hqk, hxk⟩ := hgk
    obtain ⟨itsk, rvk, p, hzk⟩ := Ik.tuple hqk
    obtain ⟨f0k, f1k, f2k, f3k, f4k, f5k⟩ := hfk it (by simp)
    have hl := rvk.length
    have hit2 : s.heap.IsTupleIter it a i := hitk
    exact wpAny_pyNext_enum_endD (Draws.tuple (A := X.A.in1) (Ik.ok.hd hc) it a hai itsk.toArray) hek (show s.heap.IsTupleIter it a itsk.toArray.size ∧ s.heap.IsTuple a itsk.toArray from ⟨by
        have e0 : itsk.toArray.size = i := by rw [List.size_toArray]; omega
        rw [e0]; exact hitk, p⟩) fun h' eb => ⟨rfl, Ik.turned (t' := s.toks) (fun b o hbk q => eb b o hbk q) f0k f1k f3k f4k f5k⟩
  self := fun A i s Q E st h => let ⟨⟨_, hek⟩, _⟩ := st; wpAny_pyIter_enum hek h
def iEnumT (K : PySem.W.Frag) (ta : TA) : TI := fun σ H R => ta σ H fun vs H1k => ∃ a xs, vs = [.ref a] ∧ SqT K H1k a xs ∧ R (ItEt K a) H1k
theorem pi_enumT {X : Cx} {e : Expr} {ta : TA} {p pos tpos : Pos} {elts : List Expr} {kk : Nat} (hgk : Gl X "enumerate") (hm : X.mg "enumerate" = none) (ha : PA X [e] ta) (hsk : starEach [e] X.env = [(false, eval e X.env)] := by rfl) :
    PI X (.Tuple elts kk tpos) (.Call (.Name "enumerate" p) [e] [] pos) (iEnumT X.K ta) := by
  refine ⟨fun pinsk s σ H R Ik h => ?_⟩
  refine Call_ (ld_blt Ik hgk hm boot_enumerate (PyProof.Rows.callWith_type1 (thn (ha.run pos pinsk s σ H _ Ik h) fun us s1k ⟨vs, H1k, I1k, r1k, q1k⟩ => ?_) hsk rfl))
  obtain ⟨a, xs, exk, hqk, q⟩ := q1k
  subst exk
  cases r1k with
  | cons r rr =>
    cases rr
    cases r
    obtain ⟨itsk, rvk, p', hzk⟩ := I1k.tuple hqk
    have p2 : s1k.heap.IsTuple a itsk.toArray := p'
    have hal : a < s1k.heap.objs.size := by obtain ⟨o, ho, _⟩ := p2; exact Heap.lt_size ho
    refine as_call_enum (begins_tuple a itsk.toArray) p2 fun h' hek hitk hszk hkk => wpAny_pyIter_enum hek ?_
    have I2k : Inv X pinsk σ H1k { s1k with heap := h' } := I1k.kept (t' := s1k.toks) hkk
    refine ⟨s1k.heap.objs.size + 1, [s1k.heap.objs.size + 1, s1k.heap.objs.size], _, _, H1k, rfl, I2k, turn_enumT a (s1k.heap.objs.size + 1) s1k.heap.objs.size, ⟨⟨.none, hek⟩, ⟨_, hitk, rfl, rfl⟩, Nat.succ_ne_self _, Nat.ne_of_lt hal, Nat.ne_of_lt (Nat.lt_succ_of_lt hal)⟩, fun b hbk => ?_, q⟩
    have ek' : b = s1k.heap.objs.size + 1 ∨ b = s1k.heap.objs.size := by simpa using hbk
    have hlek : s1k.heap.objs.size ≤ b := by
      rcases ek' with z | z
      · rw [z]; exact Nat.le_add_right _ _
      · rw [z]; exact Nat.le_refl _
    exact I1k.fpOk hlek (I1k.hok.fresh hlek)
theorem walk_enumT {K : PySem.W.Frag} {a : Addr} {xs : List V} : Walk (ItEt K a) xs.length (fun H => SqT K H a xs) (YPair (fun i => some (.int (i : Nat))) (fun i => xs[i]?)) where
  goes := fun i H hik h => ⟨xs, xs[i], h, List.getElem?_eq_getElem hik⟩
  stops := fun H h => ⟨xs, h, rfl⟩
  yields := fun i H x H' _ h y => by
    obtain ⟨T, z, e1, e2k, e3k, e4k⟩ := y
    exact ⟨T, _, z, e1, e2k, e3k, rfl, e4k xs h⟩
/-! ### in over a tuple of data -/
section
variable {X : Cx}
def rInDT (K : PySem.W.Frag) : R2 := fun x y H Q => ∃ d ds, Dp K H x d ∧ Dp K H y (.tuple ds) ∧ SeqAt.shaped d = true ∧ SeqAt.shaped (.tuple ds) = true ∧ Q (.bl (ds.any fun z => PyData.eqv z d)) H
def rNotInDT (K : PySem.W.Frag) : R2 := fun x y H Q => ∃ d ds, Dp K H x d ∧ Dp K H y (.tuple ds) ∧ SeqAt.shaped d = true ∧ SeqAt.shaped (.tuple ds) = true ∧ Q (.bl (!ds.any fun z => PyData.eqv z d)) H
theorem op_inDT (huk : X.A.units + 65 < cLine) : OpR X (compareOp .In) (rInDT X.K) := by
  intro pinsk s σ H x y v u Q Ik rxk ryk h
  obtain ⟨d, ds, hd, hek, sdk, sek, q⟩ := h
  obtain ⟨as, r1k⟩ := Dp.reads Ik d x v hd rxk
  obtain ⟨bs, r2⟩ := Dp.reads Ik (.tuple ds) y u hek ryk
  exact SeqAt.in_tuple_reads r2 r1k (SeqAt.canLay_of_shaped sek) (SeqAt.canLay_of_shaped sdk) (room_in_shaped sdk huk) ⟨.bl _, H, Ik, rfl, q⟩
theorem op_notInDT (huk : X.A.units + 65 < cLine) : OpR X (compareOp .NotIn) (rNotInDT X.K) := by
  intro pinsk s σ H x y v u Q Ik rxk ryk h
  obtain ⟨d, ds, hd, hek, sdk, sek, q⟩ := h
  obtain ⟨as, r1k⟩ := Dp.reads Ik d x v hd rxk
  obtain ⟨bs, r2⟩ := Dp.reads Ik (.tuple ds) y u hek ryk
  exact SeqAt.notIn_tuple_reads r2 r1k (SeqAt.canLay_of_shaped sek) (SeqAt.canLay_of_shaped sdk) (room_in_shaped sdk huk) ⟨.bl _, H, Ik, rfl, q⟩
end
end L2

namespace HT
open PySem PySem.Spec PyProof.Rows L2
section
variable {prog : Program} {w : World} {A : Around} {E : Value → Shared → Prop} {s : Shared}
theorem as_adjust_rev (n : Nat) : Builtin.Slice.sliceAdjust none none (-1) (n : Int) = ((n : Int) - 1, -1) := by
  unfold Builtin.Slice.sliceAdjust
  simp
theorem as_places_rev (n : Nat) : Builtin.Slice.slicePlaces ((n : Int) - 1) (-1) (-1) = n := by
  unfold Builtin.Slice.slicePlaces
  have h1 : ¬ ((-1 : Int) > 0) := by omega
  rw [if_neg h1]
  by_cases h : ((n : Int) - 1 > -1)
  · rw [if_pos h]
    have e : -(-1 : Int) = 1 := by omega
    rw [e, Int.ediv_one]
    omega
  · rw [if_neg h]
    omega
theorem as_sliceApplied_rev {sl : Addr} {vlk vuk vs : Value} {n : Nat} {Q : Int × Int × Nat → Shared → Prop} (hsk : s.heap.IsSliceOf sl vlk vuk vs) (pl : IsPart vlk none) (pu : IsPart vuk none) (ps : IsPart vs (some (-1)))
    (h : Q ((n : Int) - 1, -1, n) s) : wpAny (model prog w) A (Builtin.Slice.sliceApplied (.ref sl) (pure (n : Int))) Q E s := by
  obtain ⟨osk, hosk, hcsk, hdsk⟩ := id hsk
  unfold Builtin.Slice.sliceApplied Builtin.Slice.sliceFields
  refine wpAny_bind (wpAny_bind (wpAny_field hosk hdsk (x := vlk) rfl (wpAny_bind (wpAny_field hosk hdsk (x := vuk) rfl (wpAny_bind (wpAny_field hosk hdsk (x := vs) rfl (wpAny_pure ?_)))))))
  refine wpAny_bind (slicePart_ ps ?_)
  show wpAny _ _ (if ((-1 : Int) == 0) = true then _ else _) _ _ s
  rw [if_neg (by decide)]
  refine wpAny_bind (slicePart_ pl (wpAny_bind (slicePart_ pu (wpAny_bind (wpAny_pure ?_)))))
  show wpAny _ _ (match Builtin.Slice.sliceAdjust none none (-1) (n : Int) with | (lo, hik) => pure (lo, (-1 : Int), Builtin.Slice.slicePlaces lo hik (-1))) _ _ s
  rw [as_adjust_rev n]
  show wpAny _ _ (pure ((n : Int) - 1, (-1 : Int), Builtin.Slice.slicePlaces ((n : Int) - 1) (-1) (-1))) _ _ s
  rw [as_places_rev]
  exact wpAny_pure h
theorem as_pick_rev (xs : Array Value) : ((List.range xs.size).filterMap fun (m : Nat) => xs[((xs.size : Int) - 1 + (m : Int) * (-1)).toNat]?).toArray = xs.toList.reverse.toArray := by
  have e : (List.range xs.size).filterMap (fun (m : Nat) => xs[((xs.size : Int) - 1 + (m : Int) * (-1)).toNat]?) = ((List.range xs.size).map fun k => xs.size - 1 - k).filterMap (fun k => xs[k]?) := by
    rw [List.filterMap_map]
    congr 1
    funext m
    have : ((xs.size : Int) - 1 + (m : Int) * (-1)).toNat = xs.size - 1 - m := by omega
    simp only [this, Function.comp]
  rw [e, PySem.W.krv_range, List.filterMap_reverse, PySem.W.krv_all]
theorem as_getItem_rev {t sl : Addr} {items : Array Value} {vlk vuk vs : Value} {Q : Value → Shared → Prop} (htk : IsTup s.heap t items) (hsk : s.heap.IsSliceOf sl vlk vuk vs) (pl : IsPart vlk none) (pu : IsPart vuk none) (ps : IsPart vs (some (-1)))
    (h : Q (.ref s.heap.objs.size) { s with heap := s.heap.push { cls := .type "tuple", data := .seq items.toList.reverse.toArray } })
    (hszk : items.size ≤ sizeLine) : wpAny (model prog w) A (getItem (.ref t) (.ref sl)) Q E s := by
  have htakek : sizeOk (.seq items.toList.reverse.toArray) := by
    show items.toList.reverse.toArray.size ≤ sizeLine
    rw [List.size_toArray, List.length_reverse, Array.length_toList]
    exact hszk
  obtain ⟨osk, hosk, hcsk, hdsk⟩ := id hsk
  have hTsk : s.TypeIs (.ref sl) "slice" := ⟨osk, hosk, hcsk⟩
  unfold getItem
  try with_reducible refine wpAny_holding ?_
  first | refine wpAny_bind (wpAny_pure ?_) | skip
  refine wpAny_bind (wpAny_sequenceKey htk.typeIs (by decide) ?_)
  refine wpAny_bind (wpAny_callSpecial?_slot (name := Str.ofString "__getitem__") htk.typeIs PyProof.Rows.slot_tuple_getitem
    (wpAny_call_entry PyProof.Rows.slot_tuple_getitem htk.typeIs entry_tuple_getitem ?_ (args_tuple_getitem _ _)))
  show wpAny _ _ (Builtin.Tuple.tupleItemsOf (.ref t) >>= _) _ _ s
  refine wpAny_bind (tupleItemsOf_ htk ?_)
  refine wpAny_bind (wpAny_typeOf hTsk ?_)
  rw [if_pos (by decide)]
  refine wpAny_bind (as_sliceApplied_rev hsk pl pu ps ?_)
  have hno : ¬ ((((items.size : Int) - 1) == 0 && (-1 : Int) == 1 && items.size == items.size) = true) := by
    intro q
    rw [Bool.and_eq_true, Bool.and_eq_true] at q
    exact absurd (eq_of_beq q.1.2) (by decide)
  show wpAny _ _ (if (((items.size : Int) - 1) == 0 && (-1 : Int) == 1 && items.size == items.size) = true then _ else _) _ _ s
  rw [if_neg hno, as_pick_rev]
  first
    | exact wpAny_bind (m := Builtin.Tuple.tupleExact _) (wpAny_newObj_type (wpAny_pure ⟨_, rfl, wpAny_pure h⟩) htakek)
    | exact wpAny_bind (m := Builtin.Tuple.tupleExact _) (wpAny_newObj_type (wpAny_bind (wpAny_pure (wpAny_pure ⟨_, rfl, wpAny_pure h⟩))) htakek)
    | exact wpAny_bind (wpAny_bind (m := Builtin.Tuple.tupleExact _) (wpAny_newObj_type (wpAny_pure (wpAny_pure ⟨_, rfl, wpAny_pure h⟩)) htakek))
    | exact wpAny_bind (wpAny_bind (m := Builtin.Tuple.tupleExact _) (wpAny_newObj_type (wpAny_pure ⟨_, rfl, wpAny_pure h⟩) htakek))
end
end HT
namespace L2
open PySem PySem.Spec PyProof.Rows
section
variable {X : Cx}
def tRevT (K : PySem.W.Frag) (te : TE) : TE := fun σ H Q => te σ H fun x H1k => ∃ a xs, x = .ref a ∧ SqT K H1k a xs ∧ ∀ p, H1k p = none → Q (.ref p) (upd H1k p (.tup xs.reverse))
theorem pe_revT {e : Expr} {te : TE} {k : Nat} {p1 p2 p3 pos : Pos} (hek : PE X e te) : PE X (.Subscript e (.Slice none none (some (.UnaryOp .USub (.Constant (.int 1) k p1) p2)) p3) pos) (tRevT X.K te) := by
  refine ⟨fun pinsk s σ H Q Ik h => ?_⟩
  refine Subscript_ (thn (hek.run pinsk s σ H _ Ik h) fun v s1k ⟨x, H1k, I1k, r1k, q1k⟩ => ?_)
  obtain ⟨a, xs, exk, hxk, q⟩ := q1k
  subst exk
  cases r1k
  have hstk : PO X (some (.UnaryOp .USub (.Constant (.int 1) k p1) p2)) (tPart (tUn (rU fun i => .int (-i)) (tC (.int 1)))) := po_some (pe_un un_neg pe_int)
  refine wpAny_Slice (thn (po_none.run pinsk s1k σ H1k (fun o H2k => o = none ∧ H2k = H1k) I1k ⟨rfl, rfl⟩) fun vlk s2k ⟨l, H2k, I2k, pl, elk, e2k⟩ => ?_)
  subst elk e2k
  refine thn (po_none.run pinsk s2k σ H2k (fun o H3k => o = none ∧ H3k = H2k) I2k ⟨rfl, rfl⟩) fun vuk s3k ⟨u, H3k, I3, pu, euk, e3k⟩ => ?_
  subst euk e3k
  refine thn (hstk.run pinsk s3k σ H3k (fun o H4k => o = some (-1) ∧ H4k = H3k) I3 ⟨1, rfl, -1, rfl, rfl, rfl⟩) fun vs s4k ⟨o, H4k, I4, ps, eok, e4k⟩ => ?_
  subst eok e4k
  have I5k : Inv X pinsk σ H4k { s4k with heap := s4k.heap.push { cls := .type "slice", data := .fields #[vlk, vuk, vs] } } := I4.kept (t' := s4k.toks) fun b ob q => Heap.get?_push_of_some _ q
  obtain ⟨itsk, r, htk, hzk⟩ := I5k.tuple hxk
  have hlen := r.length
  show wpAny (model X.prog X.w) X.A (subscriptTail e (.Slice none none (some (.UnaryOp .USub (.Constant (.int 1) k p1) p2)) p3) (.ref a) (.ref s4k.heap.objs.size)) (EP X pinsk σ Q) X.xe { s4k with heap := s4k.heap.push { cls := .type "slice", data := .fields #[vlk, vuk, vs] } }
  refine tail_any (ops := [.ref a, .ref s4k.heap.objs.size]) htk.typeIs (PyProof.Rows.slot_tuple_getitem.lookup) ?_ (by with_unfolding_all rfl)
  refine HT.as_getItem_rev htk (Heap.IsSliceOf.new _ vlk vuk vs) pl pu ps ?_ (by rw [List.size_toArray]; omega)
  refine ⟨.ref _, _, I5k.laid (t' := s4k.toks) (o := .tup xs.reverse) (fun b ob q => Heap.get?_push_of_some _ q) (Nat.le_refl _) ?_, rfl, q _ (I5k.hok.fresh (Nat.le_refl _))⟩
  exact ⟨by rw [List.length_reverse]; exact hzk, _, r.reverse, ⟨_, Heap.get?_push_size _ rfl, rfl, _, rfl⟩⟩
end
end L2

namespace As
open PySem PySem.Spec PyProof.Rows L2
/-! ### heaps: all but the well of draws stays -/
def ExS (st : Addr) (H H' : Hp) : Prop := ∀ a o, a ≠ st → H a = some o → H' a = some o
theorem ExS.refl (st : Addr) (H : Hp) : ExS st H H := fun _ _ _ h => h
theorem ExS.trans {st : Addr} {H H1 H2 : Hp} (a : ExS st H H1) (b : ExS st H1 H2) : ExS st H H2 := fun x o n h => b x o n (a x o n h)
theorem ExS.of {st : Addr} {H H' : Hp} (e : Same H H') : ExS st H H' := fun a o _ h => e a o h
theorem same_new {H : Hp} {p : Addr} {o : HO} (h : H p = none) : Same H (upd H p o) := fun a u e => by
  rw [upd_ne (ne_of_none e h)]
  exact e
theorem ExS.new {st : Addr} {H : Hp} {p : Addr} {o : HO} (h : H p = none) : ExS st H (upd H p o) := .of (same_new h)
theorem ExS.at_ {st : Addr} {H : Hp} {o : HO} : ExS st H (upd H st o) := fun a u n e => by
  rw [upd_ne n]
  exact e
theorem Same.new {H H' : Hp} {p : Addr} {o : HO} (e : Same H H') (h : H' p = none) : Same H (upd H' p o) := Same.trans e (same_new h)
theorem Same.mut {H H' : Hp} {p : Addr} {o : HO} (e : Same H H') (h : H p = none) : Same H (upd H' p o) := fun a u ha => by
  rw [upd_ne (ne_of_none ha h)]
  exact e a u ha
theorem ExS.seq {K : PySem.W.Frag} {st : Addr} {H H' : Hp} {a : Addr} {xs : List V} (n : a ≠ st) (e : ExS st H H') (h : SqL K H a xs) : SqL K H' a xs := by
  rcases h with (h | ⟨o, h⟩) | h
  · exact .inl (.inl (e _ _ n h))
  · exact .inl (.inr ⟨o, e _ _ n h⟩)
  · exact .inr h
/-! ### data -/
inductive D where
  | non
  | bl (b : Bool)
  | int (i : Int)
  | str (z : Str)
  | tup (ds : List D)
  | lst (ds : List D)
  | dct
mutual
inductive TD (st : Addr) (H : Hp) : V → D → Prop
  | non : TD st H .non .non
  | bl (b : Bool) : TD st H (.bl b) (.bl b)
  | int (i : Int) : TD st H (.int i) (.int i)
  | str (z : Str) : TD st H (.str z) (.str z)
  | tup {a : Addr} {xs : List V} {ds : List D} : a ≠ st → H a = some (.tup xs) → TDs st H xs ds → TD st H (.ref a) (.tup ds)
  | lst {a : Addr} {xs : List V} {ds : List D} : a ≠ st → H a = some (.lst xs) → TDs st H xs ds → TD st H (.ref a) (.lst ds)
  | dct {a : Addr} : a ≠ st → H a = some (.dK []) → TD st H (.ref a) .dct
inductive TDs (st : Addr) (H : Hp) : List V → List D → Prop
  | nil : TDs st H [] []
  | cons {v : V} {vs : List V} {d : D} {ds : List D} : TD st H v d → TDs st H vs ds → TDs st H (v :: vs) (d :: ds)
end
mutual
theorem TD.mono {st : Addr} {H H' : Hp} (e : ExS st H H') : ∀ {v : V} {d : D}, TD st H v d → TD st H' v d
  | _, _, .non => .non
  | _, _, .bl b => .bl b
  | _, _, .int i => .int i
  | _, _, .str z => .str z
  | _, _, .tup n h t => .tup n (e _ _ n h) (TDs.mono e t)
  | _, _, .lst n h t => .lst n (e _ _ n h) (TDs.mono e t)
  | _, _, .dct n h => .dct n (e _ _ n h)
theorem TDs.mono {st : Addr} {H H' : Hp} (e : ExS st H H') : ∀ {vs : List V} {ds : List D}, TDs st H vs ds → TDs st H' vs ds
  | _, _, .nil => .nil
  | _, _, .cons h t => .cons (TD.mono e h) (TDs.mono e t)
end
theorem TDs.length {st : Addr} {H : Hp} : ∀ {vs : List V} {ds : List D}, TDs st H vs ds → vs.length = ds.length
  | _, _, .nil => rfl
  | _, _, .cons _ t => congrArg (· + 1) t.length
theorem TDs.get {st : Addr} {H : Hp} : ∀ {vs : List V} {ds : List D} {i : Nat} {v : V}, TDs st H vs ds → vs[i]? = some v → ∃ d, ds[i]? = some d ∧ TD st H v d
  | _, _, i, _, .nil, h => by simp at h
  | _, _, 0, _, .cons h _, e => by
    have e' := Option.some.inj e
    subst e'
    exact ⟨_, rfl, h⟩
  | _, _, i + 1, _, .cons _ t, e => t.get (i := i) e
theorem TDs.append {st : Addr} {H : Hp} : ∀ {vs ws : List V} {ds es : List D}, TDs st H vs ds → TDs st H ws es → TDs st H (vs ++ ws) (ds ++ es)
  | _, _, _, _, .nil, h => h
  | _, _, _, _, .cons h t, r => .cons h (t.append r)
theorem TDs.drop {st : Addr} {H : Hp} : ∀ {vs : List V} {ds : List D} (n : Nat), TDs st H vs ds → TDs st H (vs.drop n) (ds.drop n)
  | _, _, 0, h => h
  | _, _, _ + 1, .nil => .nil
  | _, _, n + 1, .cons _ t => t.drop n
theorem TDs.take {st : Addr} {H : Hp} : ∀ {vs : List V} {ds : List D} (n : Nat), TDs st H vs ds → TDs st H (vs.take n) (ds.take n)
  | _, _, 0, _ => .nil
  | _, _, _ + 1, .nil => .nil
  | _, _, n + 1, .cons h t => .cons h (t.take n)
theorem TDs.rev {st : Addr} {H : Hp} : ∀ {vs : List V} {ds : List D}, TDs st H vs ds → TDs st H vs.reverse ds.reverse
  | _, _, .nil => .nil
  | _, _, .cons h t => by
    rw [List.reverse_cons, List.reverse_cons]
    exact t.rev.append (.cons h .nil)
theorem TDs.rep {st : Addr} {H : Hp} {v : V} {d : D} (h : TD st H v d) : ∀ n : Nat, TDs st H (List.replicate n v) (List.replicate n d)
  | 0 => .nil
  | n + 1 => .cons h (TDs.rep h n)
theorem TDs.cut {st : Addr} {H : Hp} {vs : List V} {ds : List D} (lo hi : Option Int) (h : TDs st H vs ds) : ∃ es, TDs st H (cutV vs lo hi) es := ⟨_, (h.drop _).take _⟩
def tyD : D → String
  | .non => "NoneType"
  | .bl _ => "bool"
  | .int _ => "int"
  | .str _ => "str"
  | .tup _ => "tuple"
  | .lst _ => "list"
  | .dct => "dict"
theorem TD.ty {K : PySem.W.Frag} {st : Addr} {H : Hp} {v : V} {d : D} (h : TD st H v d) : TyX K H v (.type (tyD d)) := by
  cases h with
  | non => exact .base .non
  | bl b => exact .base (.bl b)
  | int i => exact .base (.int i)
  | str z => exact .base (.str z)
  | tup n h t => exact .base (.tup h)
  | lst n h t => exact .base (.lst h)
  | dct n h => exact .base (.dK h)
def isInt : D → Bool
  | .bl _ => true
  | .int _ => true
  | _ => false
def isBool : D → Bool
  | .bl _ => true
  | _ => false
def isStr : D → Bool
  | .str _ => true
  | _ => false
def isTup : D → Bool
  | .tup _ => true
  | _ => false
def isLst : D → Bool
  | .lst _ => true
  | _ => false
theorem kit_int (d : D) : kitB (tyD d) "int" = some (isInt d) := by
  cases d with
  | non => exact (show kitB "NoneType" "int" = some false by decide +kernel)
  | bl _ => exact (show kitB "bool" "int" = some true by decide +kernel)
  | int _ => exact (show kitB "int" "int" = some true by decide +kernel)
  | str _ => exact (show kitB "str" "int" = some false by decide +kernel)
  | tup _ => exact (show kitB "tuple" "int" = some false by decide +kernel)
  | lst _ => exact (show kitB "list" "int" = some false by decide +kernel)
  | dct => exact (show kitB "dict" "int" = some false by decide +kernel)
theorem kit_bool (d : D) : kitB (tyD d) "bool" = some (isBool d) := by
  cases d with
  | non => exact (show kitB "NoneType" "bool" = some false by decide +kernel)
  | bl _ => exact (show kitB "bool" "bool" = some true by decide +kernel)
  | int _ => exact (show kitB "int" "bool" = some false by decide +kernel)
  | str _ => exact (show kitB "str" "bool" = some false by decide +kernel)
  | tup _ => exact (show kitB "tuple" "bool" = some false by decide +kernel)
  | lst _ => exact (show kitB "list" "bool" = some false by decide +kernel)
  | dct => exact (show kitB "dict" "bool" = some false by decide +kernel)
theorem kit_str (d : D) : kitB (tyD d) "str" = some (isStr d) := by
  cases d with
  | non => exact (show kitB "NoneType" "str" = some false by decide +kernel)
  | bl _ => exact (show kitB "bool" "str" = some false by decide +kernel)
  | int _ => exact (show kitB "int" "str" = some false by decide +kernel)
  | str _ => exact (show kitB "str" "str" = some true by decide +kernel)
  | tup _ => exact (show kitB "tuple" "str" = some false by decide +kernel)
  | lst _ => exact (show kitB "list" "str" = some false by decide +kernel)
  | dct => exact (show kitB "dict" "str" = some false by decide +kernel)
theorem kit_tup (d : D) : kitB (tyD d) "tuple" = some (isTup d) := by
  cases d with
  | non => exact (show kitB "NoneType" "tuple" = some false by decide +kernel)
  | bl _ => exact (show kitB "bool" "tuple" = some false by decide +kernel)
  | int _ => exact (show kitB "int" "tuple" = some false by decide +kernel)
  | str _ => exact (show kitB "str" "tuple" = some false by decide +kernel)
  | tup _ => exact (show kitB "tuple" "tuple" = some true by decide +kernel)
  | lst _ => exact (show kitB "list" "tuple" = some false by decide +kernel)
  | dct => exact (show kitB "dict" "tuple" = some false by decide +kernel)
theorem kit_lst (d : D) : kitB (tyD d) "list" = some (isLst d) := by
  cases d with
  | non => exact (show kitB "NoneType" "list" = some false by decide +kernel)
  | bl _ => exact (show kitB "bool" "list" = some false by decide +kernel)
  | int _ => exact (show kitB "int" "list" = some false by decide +kernel)
  | str _ => exact (show kitB "str" "list" = some false by decide +kernel)
  | tup _ => exact (show kitB "tuple" "list" = some false by decide +kernel)
  | lst _ => exact (show kitB "list" "list" = some true by decide +kernel)
  | dct => exact (show kitB "dict" "list" = some false by decide +kernel)
theorem isi {K : PySem.W.Frag} {st : Addr} {H : Hp} {v : V} {d : D} {n : String} {b : Bool} {Q : VK} (h : TD st H v d) (k : kitB (tyD d) n = some b) (q : Q (.bl b) H) : rIsi K [v, .ty n] H Q :=
  ⟨v, .ty n, _, _, b, rfl, .ty n, h.ty, kit_ty k, q⟩
/-! ### steps -/
abbrev Pr := Str × Int
def stepD (p : Pr) : D := .tup [.str p.1, .int p.2]
def wR : Str := "read"
def wW : Str := "write"
def wordB (z : Str) : Bool := decide (z = wR) || decide (z = wW)
def boxB (i : Int) : Bool := decide (0 ≤ i) && decide (i ≤ 100000000)
def asPr : D → Option Pr
  | .tup [.str z, .int i] => if wordB z && boxB i then some (z, i) else none
  | _ => none
def isStep (d : D) : Bool := (asPr d).isSome
theorem asPr_some {d : D} {p : Pr} (h : asPr d = some p) : d = stepD p ∧ wordB p.1 = true ∧ boxB p.2 = true := by
  unfold asPr at h
  split at h
  · split at h
    · rename_i z i hc
      have e := Option.some.inj h
      subst e
      rw [Bool.and_eq_true] at hc
      exact ⟨rfl, hc.1, hc.2⟩
    · cases h
  · cases h
theorem asPr_step {p : Pr} (h1 : wordB p.1 = true) (h2 : boxB p.2 = true) : asPr (stepD p) = some p := by
  show (if (wordB p.1 && boxB p.2) = true then some (p.1, p.2) else none) = some p
  rw [h1, h2]
  rfl
/-- the place of a step among those ahead: what the program asks, and what the law does -/
def mayP (p : Pr) (l : List Pr) : Bool := !decide (p ∈ l) && !decide ((wW, p.2) ∈ l)
def mayL (p : Pr) (l : List Pr) : Bool := !decide (p ∈ l) && !(decide (p.1 = wR) && decide ((wW, p.2) ∈ l))
theorem may_eq {p : Pr} (h : wordB p.1 = true) (l : List Pr) : mayP p l = mayL p l := by
  unfold mayP mayL
  obtain ⟨z, i⟩ := p
  unfold wordB at h
  rw [Bool.or_eq_true, decide_eq_true_eq, decide_eq_true_eq] at h
  rcases h with h | h
  · have h' : z = wR := h
    subst h'
    rw [decide_eq_true (show (wR, i).1 = wR from rfl), Bool.true_and]
  · have h' : z = wW := h
    subst h'
    have n : ¬ (wW = wR) := by decide
    rw [decide_eq_false (show ¬ (wW, i).1 = wR from n), Bool.false_and]
    cases hd : decide ((wW, i) ∈ l) <;> simp_all
/-- the pairs of a list of steps -/
def prs : List D → Option (List Pr)
  | [] => some []
  | d :: ds => match asPr d, prs ds with
    | some p, some l => some (p :: l)
    | _, _ => none
theorem prs_some : ∀ {ds : List D} {l : List Pr}, prs ds = some l → ds = l.map stepD ∧ (∀ p ∈ l, wordB p.1 = true ∧ boxB p.2 = true)
  | [], l, h => by
    have e : [] = l := Option.some.inj h
    subst e
    exact ⟨rfl, fun p hp => by cases hp⟩
  | d :: ds, l, h => by
    unfold prs at h
    split at h
    · rename_i p r h1 h2
      have e := Option.some.inj h
      subst e
      obtain ⟨e1, w1, b1⟩ := asPr_some h1
      obtain ⟨e2, w2⟩ := prs_some h2
      refine ⟨by rw [e1, e2]; rfl, fun q hq => ?_⟩
      rcases List.mem_cons.mp hq with e | e
      · rw [e]; exact ⟨w1, b1⟩
      · exact w2 q e
    · cases h
theorem prs_isSome : ∀ ds : List D, (prs ds).isSome = ds.all isStep
  | [] => rfl
  | d :: ds => by
    have ih := prs_isSome ds
    rw [List.all_cons, ← ih]
    show (match asPr d, prs ds with | some p, some l => some (p :: l) | _, _ => none).isSome = (isStep d && (prs ds).isSome)
    cases h1 : asPr d with
    | none =>
      have e : isStep d = false := by unfold isStep; rw [h1]; rfl
      rw [e, Bool.false_and]
      rfl
    | some p =>
      have e : isStep d = true := by unfold isStep; rw [h1]; rfl
      rw [e, Bool.true_and]
      cases h2 : prs ds with
      | none => rfl
      | some l => rfl
theorem prs_of {l : List Pr} (h : ∀ p ∈ l, wordB p.1 = true ∧ boxB p.2 = true) : prs (l.map stepD) = some l := by
  induction l with
  | nil => rfl
  | cons p l ih =>
    have hp := h p (List.mem_cons_self ..)
    rw [List.map_cons]
    unfold prs
    rw [asPr_step hp.1 hp.2, ih fun q hq => h q (List.mem_cons_of_mem _ hq)]
/-- all places may follow -/
def follow (m : Pr → List Pr → Bool) (l : List Pr) : Bool := (List.range l.length).all fun i => match l[i]? with
  | some p => m p (l.take i)
  | none => true
def isDealing : D → Bool
  | .tup ds => decide (1 ≤ ds.length) && decide (ds.length ≤ 8) && match prs ds with
    | some l => follow mayP l
    | none => false
  | _ => false
def areDealings : D → Bool
  | .lst ds => decide (1 ≤ ds.length) && decide (ds.length ≤ 100) && ds.all isDealing
  | _ => false
/-! ### steps as the library's data -/
def stepP (p : Pr) : PyData := .tuple [.str p.1, .int p.2]
theorem word_ok {z : Str} (h : wordB z = true) : PyData.strOk z = true := by
  unfold wordB at h
  rw [Bool.or_eq_true, decide_eq_true_eq, decide_eq_true_eq] at h
  rcases h with h | h
  · subst h; decide +kernel
  · subst h; decide +kernel
theorem stepP_lay {p : Pr} (h : wordB p.1 = true) : (stepP p).canLay0 = true := by simp [stepP, PyData.canLay0, PyData.canLayAll0, word_ok h]
theorem stepP_depth (p : Pr) : (stepP p).depth = 1 := by simp [stepP, PyData.depth, PyData.depthAll]
theorem stepPs_lay : ∀ {l : List Pr}, (∀ p ∈ l, wordB p.1 = true) → PyData.canLayAll0 (l.map stepP) = true
  | [], _ => by simp [PyData.canLayAll0]
  | p :: l, h => by simp [PyData.canLayAll0, stepP_lay (h p (List.mem_cons_self ..)), stepPs_lay fun q hq => h q (List.mem_cons_of_mem _ hq)]
theorem stepPs_depth : ∀ l : List Pr, PyData.depthAll (l.map stepP) ≤ 1
  | [] => by simp [PyData.depthAll]
  | p :: l => by
    have h1 := stepPs_depth l
    have h2 := stepP_depth p
    simp only [List.map_cons, PyData.depthAll]
    omega
theorem stepP_shaped {p : Pr} (hw : wordB p.1 = true) : SeqAt.shaped (stepP p) = true := by
  have h := stepP_depth p
  show ((stepP p).canLay0 && decide ((stepP p).depth ≤ 64)) = true
  rw [Bool.and_eq_true]
  exact ⟨stepP_lay hw, decide_eq_true (by omega)⟩
theorem stepPs_shapedT {l : List Pr} (hw : ∀ p ∈ l, wordB p.1 = true) : SeqAt.shaped (.tuple (l.map stepP)) = true := by
  have h1 := stepPs_depth l
  have h2 : PyData.depth (.tuple (l.map stepP)) ≤ 64 := by
    simp only [PyData.depth]
    omega
  show (PyData.canLay0 (.tuple (l.map stepP)) && decide (PyData.depth (.tuple (l.map stepP)) ≤ 64)) = true
  rw [Bool.and_eq_true]
  exact ⟨by simp only [PyData.canLay0]; exact stepPs_lay hw, decide_eq_true h2⟩
theorem stepPs_shapedL {l : List Pr} (hw : ∀ p ∈ l, wordB p.1 = true) : SeqAt.shaped (.list (l.map stepP)) = true := by
  have h1 := stepPs_depth l
  have h2 : PyData.depth (.list (l.map stepP)) ≤ 64 := by
    simp only [PyData.depth]
    omega
  show (PyData.canLay0 (.list (l.map stepP)) && decide (PyData.depth (.list (l.map stepP)) ≤ 64)) = true
  rw [Bool.and_eq_true]
  exact ⟨by simp only [PyData.canLay0]; exact stepPs_lay hw, decide_eq_true h2⟩
theorem stepP_eqv (p q : Pr) : PyData.eqv (stepP p) (stepP q) = decide (p = q) := by
  obtain ⟨z, i⟩ := p
  obtain ⟨y, j⟩ := q
  have e : PyData.eqv (stepP (z, i)) (stepP (y, j)) = ((z == y) && ((i == j) && true)) := by simp only [stepP, PyData.eqv, PyData.eqvAll]
  rw [e]
  by_cases h1 : z = y
  · by_cases h2 : i = j
    · subst h1 h2
      simp
    · have q : (i == j) = false := beq_eq_false_iff_ne.mpr h2
      rw [q, Bool.false_and, Bool.and_false, decide_eq_false]
      intro z
      exact h2 (Prod.mk.inj z).2
  · have q : (z == y) = false := beq_eq_false_iff_ne.mpr h1
    rw [q, Bool.false_and, decide_eq_false]
    intro z
    exact h1 (Prod.mk.inj z).1
theorem any_step (l : List Pr) (p : Pr) : ((l.map stepP).any fun z => PyData.eqv z (stepP p)) = decide (p ∈ l) := by
  induction l with
  | nil => simp
  | cons q l ih =>
    rw [List.map_cons, List.any_cons, ih, stepP_eqv]
    by_cases h1 : q = p
    · subst h1
      simp
    · have h1' : ¬ p = q := fun e => h1 e.symm
      rw [decide_eq_false h1, Bool.false_or]
      exact decide_eq_decide.mpr ⟨fun h => List.mem_cons_of_mem _ h, fun h => (List.mem_cons.mp h).resolve_left h1'⟩
theorem TD.stepDp {K : PySem.W.Frag} {st : Addr} {H : Hp} {v : V} {p : Pr} (h : TD st H v (stepD p)) : Dp K H v (stepP p) := by
  cases h with
  | tup n h t =>
    cases t with
    | cons h1 t =>
      cases t with
      | cons h2 t =>
        cases t
        cases h1
        cases h2
        exact .tup (.inl (.inl h)) (.cons (.str _) (.cons (.int _) .nil))
theorem TDs.stepsDp {K : PySem.W.Frag} {st : Addr} {H : Hp} : ∀ {l : List Pr} {vs : List V}, TDs st H vs (l.map stepD) → DpAll K H vs (l.map stepP)
  | [], _, h => by
    cases h
    exact .nil
  | p :: l, _, h => by
    cases h with
    | cons h t => exact .cons h.stepDp t.stepsDp
theorem TD.stepV {st : Addr} {H : Hp} {v : V} {p : Pr} (h : TD st H v (stepD p)) : ∃ b, v = .ref b ∧ b ≠ st ∧ H b = some (.tup [.str p.1, .int p.2]) := by
  cases h with
  | @tup b ys _ n h t =>
    cases t with
    | cons h1 t =>
      cases t with
      | cons h2 t =>
        cases t
        cases h1
        cases h2
        exact ⟨b, rfl, n, h⟩
theorem TDs.stepsT {st : Addr} {H H' : Hp} (e : ∀ a ys, a ≠ st → H a = some (.tup ys) → H' a = some (.tup ys)) : ∀ {l : List Pr} {vs : List V}, TDs st H vs (l.map stepD) → TDs st H' vs (l.map stepD)
  | [], _, h => by
    cases h
    exact .nil
  | p :: l, _, h => by
    cases h with
    | cons h t =>
      obtain ⟨b, rfl, n, hb⟩ := h.stepV
      exact .cons (.tup n (e _ _ n hb) (.cons (.str _) (.cons (.int _) .nil))) (t.stepsT e)
end As

namespace As
open PySem PySem.Spec PyProof.Rows L2
theorem hu65 {A : Around} {k : Nat} (hr : Room k A) : A.units + 65 < cLine := by have := hr.un; omega
theorem sl_of {n : Nat} (h : n ≤ 100000) : n ≤ sizeLine := Nat.le_trans h (by decide)
theorem sl_lt {n : Nat} (h : n < 100000) : n < sizeLine := Nat.lt_of_lt_of_le h (by decide)
def kept (n : Nat) (t : Nat → Bool) (f : Nat → V) : List V := ((List.range n).filter t).map f
theorem kept_succ (n : Nat) (t : Nat → Bool) (f : Nat → V) : kept (n + 1) t f = kept n t f ++ (if t n then [f n] else []) := by
  unfold kept
  rw [List.range_succ, List.filter_append, List.map_append]
  cases h : t n <;> simp [h]
theorem kept_len (n : Nat) (t : Nat → Bool) (f : Nat → V) : (kept n t f).length ≤ n := by
  unfold kept
  rw [List.length_map]
  have h := List.length_filter_le t (List.range n)
  rw [List.length_range] at h
  exact h
theorem kept_all (n : Nat) (f : Nat → V) : kept n (fun _ => true) f = (List.range n).map f := by
  unfold kept
  congr 1
  exact List.filter_eq_self.mpr fun _ _ => rfl
/-- a comprehension that changes nothing that was there: what it keeps -/
theorem lc_kept {J : It} {n : Nat} {G : Hp → Prop} {Y : Nat → Hp → V → Hp → Prop} (w : Walk J n G Y) {g : TG} {tt : TT} {te : TE} {vs : List Nat} {σ : L2.St} {H1 : Hp} {D : Addr} {Qd : Hp → Prop} (t : Nat → Bool) (f : Nat → V) (hD : H1 D = none) (hn : n ≤ 10000) (hG : ∀ H, Same H1 H → G H)
    (hs : ∀ i x H H' (N : Hp → Prop) (R : VK), i < n → Same H1 H → Y i H x H' → (t i = false → ∀ H'', Same H H'' → N H'') → (t i = true → ∀ H'', Same H H'' → R (f i) H'') →
      g x (wipe σ vs) H' fun σ2 H2 => wipe σ2 vs = wipe σ vs ∧ tt σ2 H2 fun b H3 => if b = true then te σ2 H3 R else N H3)
    (hd : ∀ H, Same H1 H → H D = some (.lst (kept n t f)) → Qd H) :
    ∃ W : Nat → Nat → Hp → Prop, (∃ m, W 0 m (upd H1 D (.lst []))) ∧ ∀ i m H, W i m H →
      (J.stop i H ∧ Qd H) ∨ (J.go i H ∧ ∃ Nx : Hp → Prop, (∀ H', Nx H' → ∃ m', m' < m ∧ W (i + 1) m' H') ∧ ∀ x H', J.yld i H x H' → g x (wipe σ vs) H' fun σ2 H2 => wipe σ2 vs = wipe σ vs ∧ tt σ2 H2 fun b H3 =>
        if b = true then te σ2 H3 fun y H4 => ∃ acc, H4 D = some (.lst acc) ∧ acc.length < sizeLine ∧ Nx (upd H4 D (.lst (acc ++ [y]))) else Nx H3) := by
  refine lc_it w (fun i H => Same H1 H ∧ H D = some (.lst (kept i t f))) ⟨same_new hD, upd_same⟩ (fun i H _ p => hG H p.1) (fun i x H H' hi p y => ?_) (fun H p => hd H p.1 p.2)
  obtain ⟨p1, p2⟩ := p
  refine hs i x H H' _ _ hi p1 y (fun ht H'' e => ⟨Same.trans p1 e, ?_⟩) (fun ht H'' e => ⟨kept i t f, e _ _ p2, sl_lt (by have := kept_len i t f; omega), Same.mut (Same.trans p1 e) hD, ?_⟩)
  · rw [kept_succ, ht, if_neg Bool.false_ne_true, List.append_nil]
    exact e _ _ p2
  · rw [kept_succ, ht, if_pos rfl]
    exact upd_same
theorem yesI {te : TE} {σ : L2.St} {H : Hp} {R : VK} {N : Hp → Prop} (h : te σ H R) : tYes σ H fun b H3 => if b = true then te σ H3 R else N H3 := by
  show if true = true then te σ H R else N H
  exact iteT h
theorem isDealing_eq (ds : List D) : isDealing (.tup ds) = (decide (1 ≤ ds.length) && decide (ds.length ≤ 8) && match prs ds with | some l => follow mayP l | none => false) := rfl
theorem areDealings_eq (ds : List D) : areDealings (.lst ds) = (decide (1 ≤ ds.length) && decide (ds.length ≤ 100) && ds.all isDealing) := rfl
end As

namespace As
open PySem PySem.Spec PyProof.Rows L2
theorem follow_get {m : Pr → List Pr → Bool} {l : List Pr} (h : follow m l = true) {i : Nat} {p : Pr} (hp : l[i]? = some p) : m p (l.take i) = true := by
  unfold follow at h
  rw [List.all_eq_true] at h
  have := h i (List.mem_range.mpr (List.getElem?_eq_some_iff.mp hp).1)
  rw [hp] at this
  exact this
theorem follow_mk {m : Pr → List Pr → Bool} {l : List Pr} (h : ∀ i p, l[i]? = some p → m p (l.take i) = true) : follow m l = true := by
  unfold follow
  rw [List.all_eq_true]
  intro i _
  cases hp : l[i]? with
  | none => rfl
  | some p => exact h i p hp
theorem follow_snoc {m : Pr → List Pr → Bool} {l : List Pr} {p : Pr} (h : follow m l = true) (hp : m p l = true) : follow m (l ++ [p]) = true := by
  refine follow_mk fun i q hq => ?_
  by_cases hi : i < l.length
  · rw [List.getElem?_append_left hi] at hq
    rw [List.take_append_of_le_length (by omega)]
    exact follow_get h hq
  · have ei : i = l.length := by
      have h1 := (List.getElem?_eq_some_iff.mp hq).1
      rw [List.length_append] at h1
      have h2 : ([p] : List Pr).length = 1 := rfl
      omega
    subst ei
    rw [List.getElem?_append_right (Nat.le_refl _), Nat.sub_self] at hq
    have e : p = q := Option.some.inj hq
    subst e
    rw [List.take_append_of_le_length (Nat.le_refl _), List.take_of_length_le (Nat.le_refl _)]
    exact hp
/-- at most two steps of a box -/
theorem two_of_box {m : List Pr} (hf : follow mayP m = true) (hw : ∀ p ∈ m, wordB p.1 = true) (b : Int) (t : Pr → Bool) (ht : ∀ q, t q = true → q.2 = b) : (m.filter t).length ≤ 2 := by
  have nd : m.Pairwise (fun p q => p ≠ q) := by
    rw [List.pairwise_iff_getElem]
    intro i j hi hj hij e
    have h1 := follow_get hf (List.getElem?_eq_getElem hj)
    unfold mayP at h1
    rw [Bool.and_eq_true, Bool.not_eq_true', decide_eq_false_iff_not] at h1
    refine h1.1 ?_
    rw [← e]
    exact List.mem_take_iff_getElem.mpr ⟨i, by omega, rfl⟩
  have nf := nd.filter t
  have mem : ∀ q ∈ m.filter t, q = (wR, b) ∨ q = (wW, b) := fun q hq => by
    have h1 := List.mem_filter.mp hq
    have h2 := ht q h1.2
    have h3 := hw q h1.1
    unfold wordB at h3
    rw [Bool.or_eq_true, decide_eq_true_eq, decide_eq_true_eq] at h3
    rcases h3 with h3 | h3
    · exact .inl (Prod.ext h3 h2)
    · exact .inr (Prod.ext h3 h2)
  match hF : m.filter t, nf, mem with
  | [], _, _ => exact Nat.zero_le _
  | [_], _, _ => exact (by decide : 1 ≤ 2)
  | [_, _], _, _ => exact Nat.le_refl 2
  | x :: y :: z :: r, nf, mem =>
    exfalso
    rw [List.pairwise_cons, List.pairwise_cons] at nf
    obtain ⟨n1, n2, _⟩ := nf
    have xy := n1 y (by simp)
    have xz := n1 z (by simp)
    have yz := n2 z (by simp)
    have mx := mem x (by simp)
    have my := mem y (by simp)
    have mz := mem z (by simp)
    rcases mx with mx | mx <;> rcases my with my | my <;> rcases mz with mz | mz <;> simp_all
end As

namespace As
open PySem PySem.Spec PyProof.Rows L2
def topS (i : Nat) : Stmt := PySem.Challenge.pw_asifalone_k13_how_many_weavings.main.body.getD i (.Pass ⟨0, 0, 0, 0⟩)
abbrev sIsWhole : Stmt := topS 10
abbrev sIsNumber : Stmt := topS 11
abbrev sIsBox : Stmt := topS 12
abbrev sIsOneOf : Stmt := topS 13
abbrev sIsStep : Stmt := topS 14
abbrev sMayFollow : Stmt := topS 15
abbrev sIsDealing : Stmt := topS 16
abbrev sAreDealings : Stmt := topS 17
theorem scIsWhole : FnScope ["thing"] ["thing"] (defScope sIsWhole) := ⟨rfl, rfl, rfl, by decide +kernel, rfl, by decide +kernel, by decide +kernel⟩
theorem scIsNumber : FnScope ["thing", "many"] ["thing", "many"] (defScope sIsNumber) := ⟨rfl, rfl, rfl, by decide +kernel, rfl, by decide +kernel, by decide +kernel⟩
theorem scIsBox : FnScope ["thing"] ["thing"] (defScope sIsBox) := ⟨rfl, rfl, rfl, by decide +kernel, rfl, by decide +kernel, by decide +kernel⟩
theorem scIsOneOf : FnScope ["thing", "words"] ["thing", "words"] (defScope sIsOneOf) := ⟨rfl, rfl, rfl, by decide +kernel, rfl, by decide +kernel, by decide +kernel⟩
theorem scIsStep : FnScope ["thing"] ["thing"] (defScope sIsStep) := ⟨rfl, rfl, rfl, by decide +kernel, rfl, by decide +kernel, by decide +kernel⟩
theorem scMayFollow : FnScope ["step", "ahead"] ["step", "ahead"] (defScope sMayFollow) := ⟨rfl, rfl, rfl, by decide +kernel, rfl, by decide +kernel, by decide +kernel⟩
theorem scIsDealing : FnScope ["thing", "step", "place"] ["thing"] (defScope sIsDealing) := ⟨rfl, rfl, rfl, by decide +kernel, rfl, by decide +kernel, by decide +kernel⟩
theorem scAreDealings : FnScope ["thing", "dealing"] ["thing"] (defScope sAreDealings) := ⟨rfl, rfl, rfl, by decide +kernel, rfl, by decide +kernel, by decide +kernel⟩
/-- what the module's names hold -/
structure Mg (mg : Str → Option Value) : Prop where
  isinstance : mg "isinstance" = none
  int : mg "int" = none
  bool : mg "bool" = none
  str : mg "str" = none
  tuple : mg "tuple" = none
  list : mg "list" = none
  len : mg "len" = none
  all : mg "all" = none
  sum : mg "sum" = none
  enumerate : mg "enumerate" = none
  range : mg "range" = none
  max : mg "max" = none
  min : mg "min" = none
  box : ∃ t, mg "MOST_BOX" = some (.int 100000000 t)
  steps : ∃ t, mg "MOST_STEPS" = some (.int 8 t)
  dealings : ∃ t, mg "MOST_DEALINGS" = some (.int 100 t)
section
variable {P : Program} {w : World} {K : PySem.W.Frag} {mg : Str → Option Value} {base : Heap}
/-! ### is_whole -/
def wholeB (d : D) : Bool := isInt d && !isBool d
def spIsWhole : Sp := fun vs H Q _ => ∃ st v d, vs = [v] ∧ TD st H v d ∧ Q (.bl (wholeB d)) H
theorem ok_is_whole {f : Addr} {fd : FuncData} {k : Nat} (F : Fun K "is_whole" "is_whole" sIsWhole f fd) (M : Mg mg) : FnOk P w K mg base CX0 (k + 1) f fd ["thing"] spIsWhole := by
  refine F.ok scIsWhole (fun vs H Q E h => ?_) (fun cdv A outer s H vs Q E hr h => ?_)
  · obtain ⟨st, v, d, rfl, _⟩ := h
    rfl
  · obtain ⟨st, v, d, rfl, td, q⟩ := h
    refine ⟨_, pss_one (ps_ret (pe_and (pe_callB call_isi (by rfl) M.isinstance (by decide +kernel) (pa_cons (pv 0) (pa_cons (pe_bltn (v := .ty "int") (by rfl) M.int (by decide +kernel) rfl) pa_nil)))
      (pe_one (pe_not (pe_callB call_isi (by rfl) M.isinstance (by decide +kernel) (pa_cons (pv 0) (pa_cons (pe_bltn (v := .ty "bool") (by rfl) M.bool (by decide +kernel) rfl) pa_nil))))))), ?_⟩
    refine ⟨v, rfl, v, .ty "int", _, _, _, rfl, .ty _, td.ty, kit_ty (kit_int d), _, rfl, ?_⟩
    unfold wholeB at q
    cases hi : isInt d with
    | true =>
      rw [hi] at q
      exact iteT ⟨v, rfl, v, .ty "bool", _, _, _, rfl, .ty _, td.ty, kit_ty (kit_bool d), _, rfl, q⟩
    | false =>
      rw [hi] at q
      exact iteF q
theorem whole_int {d : D} (h : wholeB d = true) : ∃ i, d = .int i := by
  cases d with
  | int i => exact ⟨i, rfl⟩
  | _ => exact absurd h Bool.false_ne_true
/-! ### is_number -/
def numB : D → Int → Bool
  | .int i, m => decide (0 ≤ i) && decide (i < m)
  | _, _ => false
theorem num_no {d : D} {m : Int} (h : wholeB d = false) : numB d m = false := by
  cases d with
  | int i => exact absurd h.symm Bool.false_ne_true
  | _ => rfl
def spIsNumber : Sp := fun vs H Q _ => ∃ st v d m, vs = [v, .int m] ∧ TD st H v d ∧ Q (.bl (numB d m)) H
theorem ok_is_number {f f1 : Addr} {fd fd1 : FuncData} {k : Nat} (F : Fun K "is_number" "is_number" sIsNumber f fd) (M : Mg mg) (G1 : FnOk P w K mg base CX0 k f1 fd1 ["thing"] spIsWhole) (g1 : mg "is_whole" = some (.ref f1)) (k1 : PySem.W.keepIn K (.ref f1) = true) (b1 : Binds K fd1 ["thing"] []) :
    FnOk P w K mg base CX0 (k + 1) f fd ["thing", "many"] spIsNumber := by
  refine F.ok scIsNumber (fun vs H Q E h => ?_) (fun cdv A outer s H vs Q E hr h => ?_)
  · obtain ⟨st, v, d, m, rfl, _⟩ := h
    rfl
  · obtain ⟨st, v, d, m, rfl, td, q⟩ := h
    refine ⟨_, pss_one (ps_ret (pe_and (pe_call G1 hr (by rfl) g1 k1 b1 .nil pass0 (pa_cons (pv 0) pa_nil))
      (pe_one (pe_chain op_le op_lt pe_int (pv 0) (pv 1))))), ?_⟩
    refine ⟨v, rfl, st, v, d, rfl, td, _, rfl, ?_⟩
    cases hw : wholeB d with
    | false =>
      rw [num_no hw] at q
      exact iteF q
    | true =>
      obtain ⟨i, rfl⟩ := whole_int hw
      cases td
      refine iteT ⟨_, rfl, 0, i, rfl, rfl, _, rfl, ?_⟩
      have q' : Q (.bl (decide (0 ≤ i) && decide (i < m))) H := q
      cases h0 : decide (0 ≤ i) with
      | false =>
        rw [h0] at q'
        exact iteF q'
      | true =>
        rw [h0] at q'
        exact iteT ⟨_, rfl, i, m, rfl, rfl, q'⟩
/-! ### is_box -/
def boxD : D → Bool
  | .int i => boxB i
  | _ => false
theorem num_box (d : D) : numB d (100000000 + 1) = boxD d := by
  cases d with
  | int i =>
    show (decide (0 ≤ i) && decide (i < 100000000 + 1)) = (decide (0 ≤ i) && decide (i ≤ 100000000))
    rw [show decide (i < 100000000 + 1) = decide (i ≤ 100000000) from decide_eq_decide.mpr (by omega)]
  | _ => rfl
def spIsBox : Sp := fun vs H Q _ => ∃ st v d, vs = [v] ∧ TD st H v d ∧ Q (.bl (boxD d)) H
theorem ok_is_box {f f1 : Addr} {fd fd1 : FuncData} {k : Nat} (F : Fun K "is_box" "is_box" sIsBox f fd) (M : Mg mg) (G1 : FnOk P w K mg base CX0 k f1 fd1 ["thing", "many"] spIsNumber) (g1 : mg "is_number" = some (.ref f1)) (k1 : PySem.W.keepIn K (.ref f1) = true) (b1 : Binds K fd1 ["thing", "many"] []) :
    FnOk P w K mg base CX0 (k + 1) f fd ["thing"] spIsBox := by
  refine F.ok scIsBox (fun vs H Q E h => ?_) (fun cdv A outer s H vs Q E hr h => ?_)
  · obtain ⟨st, v, d, rfl, _⟩ := h
    rfl
  · obtain ⟨st, v, d, rfl, td, q⟩ := h
    obtain ⟨tb, mb⟩ := M.box
    refine ⟨_, pss_one (ps_ret (pe_call G1 hr (by rfl) g1 k1 b1 .nil pass0 (pa_cons (pv 0) (pa_cons (pe_add (pe_glob (v := .int 100000000) (by rfl) mb ⟨_, rfl⟩) pe_int) pa_nil)))), ?_⟩
    refine ⟨v, rfl, 100000000, 1, rfl, rfl, st, v, d, 100000000 + 1, rfl, td, ?_⟩
    rw [num_box]
    exact q
/-! ### is_one_of -/
def oneB : D → List Str → Bool
  | .str z, ws => decide (z ∈ ws)
  | _, _ => false
theorem inV_str (z : Str) : ∀ ws : List Str, inV (.str z) (ws.map V.str) = decide (z ∈ ws)
  | [] => by simp [inV]
  | y :: ws => by
    have ih := inV_str z ws
    unfold inV at ih ⊢
    rw [List.map_cons, List.any_cons, ih]
    by_cases e : y = z
    · subst e
      simp [eqV]
    · have e' : ¬ z = y := fun q => e q.symm
      have : eqV (.str y) (.str z) = false := by simp [eqV, e]
      rw [this, Bool.false_or]
      exact decide_eq_decide.mpr ⟨fun h => List.mem_cons_of_mem _ h, fun h => (List.mem_cons.mp h).resolve_left e'⟩
theorem flat_strs : ∀ ws : List Str, (ws.map V.str).all flatV = true
  | [] => rfl
  | y :: ws => by
    rw [List.map_cons, List.all_cons, flat_strs ws]
    rfl
def spIsOneOf (K : PySem.W.Frag) : Sp := fun vs H Q _ => ∃ st v d a ws, vs = [v, .ref a] ∧ TD st H v d ∧ SqT K H a (ws.map V.str) ∧ Q (.bl (oneB d ws)) H
theorem ok_is_one_of {f : Addr} {fd : FuncData} {k : Nat} (F : Fun K "is_one_of" "is_one_of" sIsOneOf f fd) (M : Mg mg) : FnOk P w K mg base CX0 (k + 1) f fd ["thing", "words"] (spIsOneOf K) := by
  refine F.ok scIsOneOf (fun vs H Q E h => ?_) (fun cdv A outer s H vs Q E hr h => ?_)
  · obtain ⟨st, v, d, a, ws, rfl, _⟩ := h
    rfl
  · obtain ⟨st, v, d, a, ws, rfl, td, hS, q⟩ := h
    refine ⟨_, pss_one (ps_ret (pe_and (pe_callB call_isi (by rfl) M.isinstance (by decide +kernel) (pa_cons (pv 0) (pa_cons (pe_bltn (v := .ty "str") (by rfl) M.str (by decide +kernel) rfl) pa_nil)))
      (pe_one (pe_cmpR op_in_seq (pv 0) (pv 1) (by rfl))))), ?_⟩
    refine ⟨v, rfl, v, .ty "str", _, _, _, rfl, .ty _, td.ty, kit_ty (kit_str d), _, rfl, ?_⟩
    cases td with
    | str z => exact iteT ⟨_, rfl, _, rfl, a, ws.map V.str, rfl, .inr hS, rfl, flat_strs ws, by
        show Q (.bl (inV (.str z) (ws.map V.str))) H
        rw [inV_str]
        exact q⟩
    | _ => exact iteF q
/-! ### is_step -/
theorem isStep_pair (x y : D) : isStep (.tup [x, y]) = (oneB x [wR, wW] && boxD y) := by
  cases x with
  | str z =>
    cases y with
    | int i =>
      show ((if (wordB z && boxB i) = true then some (z, i) else none).isSome) = (decide (z ∈ [wR, wW]) && boxB i)
      have e : decide (z ∈ [wR, wW]) = wordB z := by
        unfold wordB
        simp
      rw [e]
      cases (wordB z && boxB i) <;> rfl
    | _ =>
      show false = (_ && false)
      rw [Bool.and_false]
  | _ => rfl
theorem isStep_len {ds : List D} (h : ds.length ≠ 2) : isStep (.tup ds) = false := by
  match ds, h with
  | [], _ => rfl
  | [x], _ => cases x <;> rfl
  | [x, y], h => exact absurd rfl h
  | x :: y :: z :: r, _ =>
    cases x with
    | str z => cases y <;> rfl
    | _ => rfl
theorem isStep_tup {d : D} (h : isTup d = false) : isStep d = false := by
  cases d with
  | tup ds => exact absurd h.symm Bool.false_ne_true
  | _ => rfl
def spD (f : D → Bool) : Sp := fun vs H Q _ => ∃ st v d, vs = [v] ∧ TD st H v d ∧ ∀ H', Same H H' → Q (.bl (f d)) H'
theorem ok_is_step {f f1 f2 : Addr} {fd fd1 fd2 : FuncData} {k : Nat} (F : Fun K "is_step" "is_step" sIsStep f fd) (M : Mg mg) (G1 : FnOk P w K mg base CX0 k f1 fd1 ["thing", "words"] (spIsOneOf K)) (g1 : mg "is_one_of" = some (.ref f1)) (k1 : PySem.W.keepIn K (.ref f1) = true) (b1 : Binds K fd1 ["thing", "words"] [])
    (G2 : FnOk P w K mg base CX0 k f2 fd2 ["thing"] spIsBox) (g2 : mg "is_box" = some (.ref f2)) (k2 : PySem.W.keepIn K (.ref f2) = true) (b2 : Binds K fd2 ["thing"] []) :
    FnOk P w K mg base CX0 (k + 1) f fd ["thing"] (spD isStep) := by
  refine F.ok scIsStep (fun vs H Q E h => ?_) (fun cdv A outer s H vs Q E hr h => ?_)
  · obtain ⟨st, v, d, rfl, _⟩ := h
    rfl
  · obtain ⟨st, v, d, rfl, td, q⟩ := h
    refine ⟨_, pss_cons (ps_if (PW.pt (pw_or (pt_not (pt_val (pe_callB call_isi (by rfl) M.isinstance (by decide +kernel) (pa_cons (pv 0) (pa_cons (pe_bltn (v := .ty "tuple") (by rfl) M.tuple (by decide +kernel) rfl) pa_nil)))))
        (pw_or1 (pt_cmpR op_ne (pe_callB call_len_seq (by rfl) M.len PySem.boot_len (pa_cons (pv 0) pa_nil)) pe_int (nomark _))))) (pss_one (ps_ret pe_bl)) pss_nil)
      (pss_one (ps_ret (pe_and (pe_call G1 hr (by rfl) g1 k1 b1 .nil pass0 (pa_cons (pe_ix ix_tup (pv 0) pe_int (fun _ _ => rfl)) (pa_cons (pe_tup (pa_cons pe_str (pa_cons pe_str pa_nil))) pa_nil)))
        (pe_one (pe_call G2 hr (by rfl) g2 k2 b2 .nil pass0 (pa_cons (pe_ix ix_tup (pv 0) pe_int (fun _ _ => rfl)) pa_nil)))))), ?_⟩
    refine ⟨v, rfl, v, .ty "tuple", _, _, _, rfl, .ty _, td.ty, kit_ty (kit_tup d), _, rfl, ?_⟩
    cases ht : isTup d with
    | false =>
      rw [isStep_tup ht] at q
      exact iteT (iteT (q H (Same.refl H)))
    | true =>
      cases td with
      | @tup a xs ds n h t =>
        refine iteF ⟨.ref a, rfl, a, xs, rfl, .inr (SqT.of h), rfl, _, rfl, ?_⟩
        have hl := t.length
        by_cases h2 : xs.length = 2
        · rw [h2]
          refine iteF ?_
          match xs, ds, t, h2 with
          | [x, y], [dx, dy], .cons tx (.cons ty .nil), _ =>
            refine ⟨.ref a, rfl, a, [x, y], 0, x, rfl, rfl, SqT.of h, rfl, by show 2 ≤ sizeLine; decide, fun p np => ?_⟩
            have s1 : Same H (upd H p (.tup [.str wR, .str wW])) := same_new np
            refine ⟨st, x, dx, p, [wR, wW], rfl, tx.mono (.of s1), SqT.of upd_same, _, rfl, ?_⟩
            rw [isStep_pair] at q
            cases ho : oneB dx [wR, wW] with
            | false =>
              rw [ho] at q
              exact iteF (q _ s1)
            | true =>
              rw [ho] at q
              exact iteT ⟨.ref a, rfl, a, [x, y], 1, y, rfl, rfl, SqT.of (s1 _ _ h), rfl, st, y, dy, rfl, ty.mono (.of s1), q _ s1⟩
        · have e : (!decide (V.int (xs.length : Int) = V.int 2)) = true := by
            rw [Bool.not_eq_true', decide_eq_false_iff_not]
            intro z
            have z' : (xs.length : Int) = 2 := V.int.inj z
            exact h2 (by omega)
          rw [e]
          rw [isStep_len (by omega)] at q
          exact iteT (q H (Same.refl H))
      | _ => exact absurd ht Bool.false_ne_true
/-! ### may_follow -/
def spMay : Sp := fun vs H Q _ => ∃ st v p a xs l, vs = [v, .ref a] ∧ TD st H v (stepD p) ∧ H a = some (.tup xs) ∧ TDs st H xs (l.map stepD) ∧ wordB p.1 = true ∧ (∀ q ∈ l, wordB q.1 = true) ∧ ∀ H', Same H H' → Q (.bl (mayP p l)) H'
theorem ok_may_follow {f : Addr} {fd : FuncData} {k : Nat} (F : Fun K "may_follow" "may_follow" sMayFollow f fd) (M : Mg mg) : FnOk P w K mg base CX0 (k + 1) f fd ["step", "ahead"] spMay := by
  refine F.ok scMayFollow (fun vs H Q E h => ?_) (fun cdv A outer s H vs Q E hr h => ?_)
  · obtain ⟨st, v, p, a, xs, l, rfl, _⟩ := h
    rfl
  · obtain ⟨st, v, p, a, xs, l, rfl, td, h, t, wp, wl, q⟩ := h
    refine ⟨_, pss_one (ps_ret (pe_and (pe_cmpR (op_notInDT (hu65 hr)) (pv 0) (pv 1) (by rfl))
      (pe_one (pe_cmpR (op_notInDT (hu65 hr)) (pe_tup (pa_cons pe_str (pa_cons (pe_ix ix_tup (pv 0) pe_int (fun _ _ => rfl)) pa_nil))) (pv 1) (by rfl))))), ?_⟩
    refine ⟨v, rfl, .ref a, rfl, stepP p, l.map stepP, td.stepDp, .tup (SqT.of h) t.stepsDp, stepP_shaped wp, stepPs_shapedT wl, _, rfl, ?_⟩
    rw [any_step]
    unfold mayP at q
    cases h1 : decide (p ∈ l) with
    | true =>
      rw [h1] at q
      exact iteF (q H (Same.refl H))
    | false =>
      rw [h1] at q
      obtain ⟨b, rfl, nb, hb⟩ := td.stepV
      refine iteT ⟨.ref b, rfl, b, [.str p.1, .int p.2], 1, .int p.2, rfl, rfl, SqT.of hb, rfl, by show 2 ≤ sizeLine; decide, fun c nc => ?_⟩
      have s1 : Same H (upd H c (.tup [.str wW, .int p.2])) := same_new nc
      refine ⟨.ref a, rfl, stepP (wW, p.2), l.map stepP, .tup (SqT.of upd_same) (.cons (.str _) (.cons (.int _) .nil)), .tup (SqT.of (s1 _ _ h)) (t.mono (.of s1)).stepsDp, stepP_shaped (show wordB wW = true by decide +kernel), stepPs_shapedT wl, ?_⟩
      rw [any_step]
      exact q _ s1
/-! ### is_dealing -/
theorem map_range {α : Type} (xs : List α) (g : Nat → α) (h : ∀ i x, xs[i]? = some x → g i = x) : (List.range xs.length).map g = xs := by
  apply List.ext_getElem?
  intro i
  rw [List.getElem?_map]
  by_cases hi : i < xs.length
  · rw [List.getElem?_range hi, List.getElem?_eq_getElem hi]
    exact congrArg some (h i _ (List.getElem?_eq_getElem hi))
  · rw [List.getElem?_eq_none (by rw [List.length_range]; omega), List.getElem?_eq_none (by omega)]
    rfl
theorem isDealing_tup {d : D} (h : isTup d = false) : isDealing d = false := by
  cases d with
  | tup ds => exact absurd h.symm Bool.false_ne_true
  | _ => rfl
theorem cut_to (xs : List V) (i : Nat) : cutV xs none (some (i : Int)) = xs.take i := by
  unfold cutV
  rw [HT.sIx_none, HT.sIx_nat, List.drop_zero, Nat.sub_zero]
  by_cases h : i ≤ xs.length
  · rw [Nat.min_eq_left h]
  · rw [Nat.min_eq_right (by omega), List.take_of_length_le (Nat.le_refl _), List.take_of_length_le (by omega)]
theorem all_id_map {α : Type} (g : α → Bool) (xs : List α) : (xs.map g).all id = xs.all g := by
  rw [List.all_map]
  rfl
theorem ok_is_dealing {f f1 f2 : Addr} {fd fd1 fd2 : FuncData} {k : Nat} (F : Fun K "is_dealing" "is_dealing" sIsDealing f fd) (M : Mg mg) (G1 : FnOk P w K mg base CX0 k f1 fd1 ["thing"] (spD isStep)) (g1 : mg "is_step" = some (.ref f1)) (k1 : PySem.W.keepIn K (.ref f1) = true) (b1 : Binds K fd1 ["thing"] [])
    (G2 : FnOk P w K mg base CX0 k f2 fd2 ["step", "ahead"] spMay) (g2 : mg "may_follow" = some (.ref f2)) (k2 : PySem.W.keepIn K (.ref f2) = true) (b2 : Binds K fd2 ["step", "ahead"] []) :
    FnOk P w K mg base CX0 (k + 1) f fd ["thing"] (spD isDealing) := by
  refine F.ok scIsDealing (fun vs H Q E h => ?_) (fun cdv A outer s H vs Q E hr h => ?_)
  · obtain ⟨st, v, d, rfl, _⟩ := h
    rfl
  · obtain ⟨st, v, d, rfl, td, q⟩ := h
    obtain ⟨ts, ms⟩ := M.steps
    refine ⟨_, pss_cons (ps_if (PW.pt (pw_or (pt_not (pt_val (pe_callB call_isi (by rfl) M.isinstance (by decide +kernel) (pa_cons (pv 0) (pa_cons (pe_bltn (v := .ty "tuple") (by rfl) M.tuple (by decide +kernel) rfl) pa_nil)))))
        (pw_or1 (pt_not (pt_chain op_le op_le pe_int (pe_callB call_len_seq (by rfl) M.len PySem.boot_len (pa_cons (pv 0) pa_nil)) (pe_glob (v := .int 8) (by rfl) ms ⟨_, rfl⟩)))))) (pss_one (ps_ret pe_bl)) pss_nil)
      (pss_cons (ps_if (pt_not (pt_val (pe_callB (cr_all rfl) (by rfl) M.all (by decide +kernel) (pa_cons
          (pe_lc (own := [("step", 1)]) (g := gName 1) (by rfl) scIsDealing.nd (pi_tup (pv 0)) (blkOk_by (own := [("step", 1)]) (N := ["thing", "step", "place"]) (sc := defScope sIsDealing) (by decide +kernel))
            (fun _ _ _ _ _ => pg_name (i := 1) scIsDealing.nd rfl (Or.inl rfl)) (fun _ _ _ _ _ => pts_nil) (fun _ _ _ _ _ => pe_call G1 hr (by rfl) g1 k1 b1 .nil pass0 (pa_cons (pv 1) pa_nil))) pa_nil)))) (pss_one (ps_ret pe_bl)) pss_nil)
      (pss_one (ps_ret (pe_callB (cr_all rfl) (by rfl) M.all (by decide +kernel) (pa_cons
          (pe_lc (own := [("place", 2), ("step", 1)]) (g := gTup K 2 (gCons (gName 2) (gCons (gName 1) gNil))) (by rfl) scIsDealing.nd (pi_enumT (by rfl) M.enumerate (pa_cons (pv 0) pa_nil)) (blkOk_by (own := [("place", 2), ("step", 1)]) (N := ["thing", "step", "place"]) (sc := defScope sIsDealing) (by decide +kernel))
            (fun _ _ _ _ _ => pg_tup rfl (pgs_cons (pg_name (i := 2) scIsDealing.nd rfl (Or.inl rfl)) (pgs_cons (pg_name (i := 1) scIsDealing.nd rfl (Or.inl rfl)) pgs_nil))) (fun _ _ _ _ _ => pts_nil)
            (fun _ _ _ _ _ => pe_call G2 hr (by rfl) g2 k2 b2 .nil pass0 (pa_cons (pv 1) (pa_cons (pe_slice (show SlR _ (rSlA K) from sl_tupA) (pv 0) po_none (po_some (pv 2))) pa_nil)))) pa_nil))))), ?_⟩
    refine ⟨v, rfl, v, .ty "tuple", _, _, _, rfl, .ty _, td.ty, kit_ty (kit_tup d), _, rfl, ?_⟩
    cases ht : isTup d with
    | false =>
      rw [isDealing_tup ht] at q
      exact iteT (iteT (q H (Same.refl H)))
    | true =>
      cases td with
      | @tup a xs ds n h t =>
        have hl := t.length
        refine iteF ⟨.ref a, rfl, a, xs, rfl, .inr (SqT.of h), 1, _, rfl, rfl, _, rfl, ?_⟩
        by_cases h1 : 1 ≤ xs.length
        · rw [decide_eq_true (show (1 : Int) ≤ (xs.length : Int) by omega)]
          refine iteT ⟨_, 8, rfl, rfl, _, rfl, ?_⟩
          by_cases h8 : xs.length ≤ 8
          · rw [decide_eq_true (show (xs.length : Int) ≤ 8 by omega)]
            refine iteF ⟨.ref a, rfl, a, rfl, ⟨_, SqT.of h⟩, fun D1 hD1 => lc_kept walk_tup (fun _ => true) (fun i => .bl (isStep (ds.getD i .non))) hD1 (by omega) (fun H' e => SqT.of (e _ _ h)) (fun i x H2 H3 N R hi e2 y hN hR => ?_) (fun H2 e2 hL => ?_)⟩
            · obtain ⟨rfl, hx⟩ := y
              obtain ⟨di, hdi, tdi⟩ := t.get hx
              refine ⟨rfl, yesI ⟨x, rfl, st, x, di, rfl, tdi.mono (.of e2), fun H4 e4 => ?_⟩⟩
              have e5 : ds.getD i .non = di := by rw [List.getD_eq_getElem?_getD, hdi]; rfl
              have r := hR rfl H4 e4
              simp only [e5] at r
              exact r
            · have e1 : kept xs.length (fun _ => true) (fun i => V.bl (isStep (ds.getD i .non))) = (ds.map isStep).map V.bl := by
                rw [kept_all]
                have e0 : xs.length = ((ds.map isStep).map V.bl).length := by rw [List.length_map, List.length_map]; exact hl
                rw [e0]
                refine map_range _ _ fun i x hx => ?_
                rw [List.getElem?_map, List.getElem?_map] at hx
                cases hd : ds[i]? with
                | none => rw [hd] at hx; cases hx
                | some di =>
                  rw [hd] at hx
                  have e5 : ds.getD i .non = di := by rw [List.getD_eq_getElem?_getD, hd]; rfl
                  rw [e5]
                  exact Option.some.inj hx
              rw [e1] at hL
              refine ⟨D1, ds.map isStep, rfl, SqL.of hL, _, rfl, ?_⟩
              rw [all_id_map, ← prs_isSome]
              have hdl : decide (1 ≤ ds.length) = true := decide_eq_true (by omega)
              have hdl8 : decide (ds.length ≤ 8) = true := decide_eq_true (by omega)
              have q' : ∀ H', Same H H' → Q (.bl (match prs ds with | some l => follow mayP l | none => false)) H' := fun H' e => by
                have := q H' e
                rw [isDealing_eq, hdl, hdl8] at this
                exact this
              cases hp : prs ds with
              | none =>
                rw [hp] at q'
                exact iteT (q' H2 e2)
              | some l =>
                rw [hp] at q'
                obtain ⟨el, wl⟩ := prs_some hp
                have hll : xs.length = l.length := by rw [hl, el, List.length_map]
                have t' : TDs st H xs (l.map stepD) := by rw [← el]; exact t
                refine iteF ⟨.ref a, rfl, a, xs, rfl, SqT.of (e2 _ _ h), fun D2 hD2 => lc_kept walk_enumT (fun _ => true) (fun i => .bl (match l[i]? with | some p => mayP p (l.take i) | none => true)) hD2 (by omega) (fun H' e => SqT.of (e _ _ (e2 _ _ h))) (fun i x H3 H4 N R hi e3 y hN hR => ?_) (fun H3 e3 hL2 => ?_)⟩
                · obtain ⟨T, x1, x2, rfl, nT, rfl, ex1, hx2⟩ := y
                  have ex1' : x1 = .int (i : Nat) := (Option.some.inj ex1).symm
                  subst ex1'
                  obtain ⟨di, hdi, tdi⟩ := t'.get hx2
                  have hil : i < l.length := by omega
                  have hgi : l[i]? = some l[i] := List.getElem?_eq_getElem hil
                  have edi : di = stepD l[i] := by
                    rw [List.getElem?_map, hgi] at hdi
                    exact (Option.some.inj hdi).symm
                  subst edi
                  have eT : Same H (upd H3 T (.tup [.int (i : Nat), x2])) := Same.new (Same.trans e2 e3) nT
                  refine ⟨T, [.int (i : Nat), x2], rfl, SqT.of upd_same, rfl, .int (i : Nat), [x2], rfl, x2, [], rfl, rfl, rfl, yesI ⟨x2, rfl, .ref a, rfl, .int (i : Nat), rfl, i, rfl, a, xs, rfl, SqT.of (eT _ _ h), fun hw => ?_, fun hw p np => ?_⟩⟩
                  · rw [HT.sIx_nat] at hw
                    exact absurd hw.2 (by omega)
                  · have eP : Same H (upd (upd H3 T (.tup [.int (i : Nat), x2])) p (.tup (cutV xs none (some (i : Nat))))) := Same.new eT np
                    refine ⟨st, x2, l[i], p, xs.take i, l.take i, rfl, tdi.mono (.of eP), by rw [upd_same, cut_to], ?_, (wl _ (List.getElem_mem hil)).1, fun q hq => (wl q (List.mem_of_mem_take hq)).1, fun H5 e5 => ?_⟩
                    · rw [List.map_take]
                      exact (t'.take i).mono (.of eP)
                    · have r := hR rfl H5 (Same.trans (same_new nT) (Same.trans (same_new np) e5))
                      simp only [hgi] at r
                      exact r
                · have e1 : kept xs.length (fun _ => true) (fun i => V.bl (match l[i]? with | some p => mayP p (l.take i) | none => true)) = ((List.range l.length).map fun i => match l[i]? with | some p => mayP p (l.take i) | none => true).map V.bl := by
                    rw [kept_all, List.map_map, hll]
                    rfl
                  rw [e1] at hL2
                  refine ⟨D2, _, rfl, SqL.of hL2, ?_⟩
                  rw [all_id_map]
                  exact q' H3 (Same.trans e2 e3)
          · rw [decide_eq_false (show ¬ (xs.length : Int) ≤ 8 by omega)]
            have e : isDealing (.tup ds) = false := by
              rw [isDealing_eq, decide_eq_false (show ¬ ds.length ≤ 8 by omega), Bool.and_false, Bool.false_and]
            rw [e] at q
            exact iteT (q H (Same.refl H))
        · rw [decide_eq_false (show ¬ (1 : Int) ≤ (xs.length : Int) by omega)]
          have e : isDealing (.tup ds) = false := by
            rw [isDealing_eq, decide_eq_false (show ¬ 1 ≤ ds.length by omega), Bool.false_and, Bool.false_and]
          rw [e] at q
          refine iteF ⟨_, rfl, iteT (q H (Same.refl H))⟩
      | _ => exact absurd ht Bool.false_ne_true
/-! ### are_dealings -/
theorem areDealings_lst {d : D} (h : isLst d = false) : areDealings d = false := by
  cases d with
  | lst ds => exact absurd h.symm Bool.false_ne_true
  | _ => rfl
theorem ok_are_dealings {f f1 : Addr} {fd fd1 : FuncData} {k : Nat} (F : Fun K "are_dealings" "are_dealings" sAreDealings f fd) (M : Mg mg) (G1 : FnOk P w K mg base CX0 k f1 fd1 ["thing"] (spD isDealing)) (g1 : mg "is_dealing" = some (.ref f1)) (k1 : PySem.W.keepIn K (.ref f1) = true) (b1 : Binds K fd1 ["thing"] []) :
    FnOk P w K mg base CX0 (k + 1) f fd ["thing"] (spD areDealings) := by
  refine F.ok scAreDealings (fun vs H Q E h => ?_) (fun cdv A outer s H vs Q E hr h => ?_)
  · obtain ⟨st, v, d, rfl, _⟩ := h
    rfl
  · obtain ⟨st, v, d, rfl, td, q⟩ := h
    obtain ⟨ts, ms⟩ := M.dealings
    refine ⟨_, pss_cons (ps_if (PW.pt (pw_or (pt_not (pt_val (pe_callB call_isi (by rfl) M.isinstance (by decide +kernel) (pa_cons (pv 0) (pa_cons (pe_bltn (v := .ty "list") (by rfl) M.list (by decide +kernel) rfl) pa_nil)))))
        (pw_or1 (pt_not (pt_chain op_le op_le pe_int (pe_callB call_len_seq (by rfl) M.len PySem.boot_len (pa_cons (pv 0) pa_nil)) (pe_glob (v := .int 100) (by rfl) ms ⟨_, rfl⟩)))))) (pss_one (ps_ret pe_bl)) pss_nil)
      (pss_one (ps_ret (pe_callB (cr_all rfl) (by rfl) M.all (by decide +kernel) (pa_cons
          (pe_lc (own := [("dealing", 1)]) (g := gName 1) (by rfl) scAreDealings.nd (pi_list (pv 0)) (blkOk_by (own := [("dealing", 1)]) (N := ["thing", "dealing"]) (sc := defScope sAreDealings) (by decide +kernel))
            (fun _ _ _ _ _ => pg_name (i := 1) scAreDealings.nd rfl (Or.inl rfl)) (fun _ _ _ _ _ => pts_nil) (fun _ _ _ _ _ => pe_call G1 hr (by rfl) g1 k1 b1 .nil pass0 (pa_cons (pv 1) pa_nil))) pa_nil)))), ?_⟩
    refine ⟨v, rfl, v, .ty "list", _, _, _, rfl, .ty _, td.ty, kit_ty (kit_lst d), _, rfl, ?_⟩
    cases ht : isLst d with
    | false =>
      rw [areDealings_lst ht] at q
      exact iteT (iteT (q H (Same.refl H)))
    | true =>
      cases td with
      | @lst a xs ds n h t =>
        have hl := t.length
        refine iteF ⟨.ref a, rfl, a, xs, rfl, .inl (SqL.of h), 1, _, rfl, rfl, _, rfl, ?_⟩
        by_cases h1 : 1 ≤ xs.length
        · rw [decide_eq_true (show (1 : Int) ≤ (xs.length : Int) by omega)]
          refine iteT ⟨_, 100, rfl, rfl, _, rfl, ?_⟩
          by_cases h8 : xs.length ≤ 100
          · rw [decide_eq_true (show (xs.length : Int) ≤ 100 by omega)]
            refine iteF ⟨.ref a, rfl, a, rfl, ⟨_, SqL.of h⟩, fun D1 hD1 => lc_kept walk_list (fun _ => true) (fun i => .bl (isDealing (ds.getD i .non))) hD1 (by omega) (fun H' e => SqL.of (e _ _ h)) (fun i x H2 H3 N R hi e2 y hN hR => ?_) (fun H2 e2 hL => ?_)⟩
            · obtain ⟨rfl, hx⟩ := y
              obtain ⟨di, hdi, tdi⟩ := t.get hx
              refine ⟨rfl, yesI ⟨x, rfl, st, x, di, rfl, tdi.mono (.of e2), fun H4 e4 => ?_⟩⟩
              have e5 : ds.getD i .non = di := by rw [List.getD_eq_getElem?_getD, hdi]; rfl
              have r := hR rfl H4 e4
              simp only [e5] at r
              exact r
            · have e1 : kept xs.length (fun _ => true) (fun i => V.bl (isDealing (ds.getD i .non))) = (ds.map isDealing).map V.bl := by
                rw [kept_all]
                have e0 : xs.length = ((ds.map isDealing).map V.bl).length := by rw [List.length_map, List.length_map]; exact hl
                rw [e0]
                refine map_range _ _ fun i x hx => ?_
                rw [List.getElem?_map, List.getElem?_map] at hx
                cases hd : ds[i]? with
                | none => rw [hd] at hx; cases hx
                | some di =>
                  rw [hd] at hx
                  have e5 : ds.getD i .non = di := by rw [List.getD_eq_getElem?_getD, hd]; rfl
                  rw [e5]
                  exact Option.some.inj hx
              rw [e1] at hL
              refine ⟨D1, ds.map isDealing, rfl, SqL.of hL, ?_⟩
              rw [all_id_map]
              have r := q H2 e2
              rw [areDealings_eq, decide_eq_true (show 1 ≤ ds.length by omega), decide_eq_true (show ds.length ≤ 100 by omega)] at r
              exact r
          · rw [decide_eq_false (show ¬ (xs.length : Int) ≤ 100 by omega)]
            have e : areDealings (.lst ds) = false := by
              rw [areDealings_eq, decide_eq_false (show ¬ ds.length ≤ 100 by omega), Bool.and_false, Bool.false_and]
            rw [e] at q
            exact iteT (q H (Same.refl H))
        · rw [decide_eq_false (show ¬ (1 : Int) ≤ (xs.length : Int) by omega)]
          have e : areDealings (.lst ds) = false := by
            rw [areDealings_eq, decide_eq_false (show ¬ 1 ≤ ds.length by omega), Bool.false_and, Bool.false_and]
          rw [e] at q
          refine iteF ⟨_, rfl, iteT (q H (Same.refl H))⟩
      | _ => exact absurd ht Bool.false_ne_true
end
end As

namespace As
open PySem PySem.Spec PyProof.Rows L2
abbrev sCheckS : Stmt := topS 18
abbrev sTurns : Stmt := topS 20
theorem scCheckS : FnScope ["thing"] ["thing"] (defScope sCheckS) := ⟨rfl, rfl, rfl, by decide +kernel, rfl, by decide +kernel, by decide +kernel⟩
theorem scTurns : FnScope ["dealings", "dealing"] ["dealings"] (defScope sTurns) := ⟨rfl, rfl, rfl, by decide +kernel, rfl, by decide +kernel, by decide +kernel⟩
/-- an error's class as the top leaves it -/
structure Er (K : PySem.W.Frag) (mg : Str → Option Value) (x : Str) (CA C : Addr) : Prop where
  g : mg x = some (.ref C)
  x : PySem.W.excIn K C [.type "ValueError", .type "Exception", .type "BaseException", .type "object"] "ValueError.__new__" = true
  k : PySem.W.keepIn K (.ref C) = true
  b : PySem.W.subIn K (.ref C) (.type "BaseException") = some true
  t : PySem.W.typeIn K (.ref C) = some (.type "type")
  eA : PySem.W.exmOne K (.ref C) (.ref CA) = some true
  eC : ExcC K C
/-! ### dealings -/
def dlD (l : List Pr) : D := .tup (l.map stepD)
def dsD (ls : List (List Pr)) : D := .lst (ls.map dlD)
def okD (l : List Pr) : Prop := (∀ p ∈ l, wordB p.1 = true ∧ boxB p.2 = true) ∧ 1 ≤ l.length ∧ l.length ≤ 8 ∧ follow mayP l = true
theorem dealing_of {d : D} (h : isDealing d = true) : ∃ l, d = dlD l ∧ okD l := by
  cases d with
  | tup ds =>
    rw [isDealing_eq, Bool.and_eq_true, Bool.and_eq_true, decide_eq_true_eq, decide_eq_true_eq] at h
    obtain ⟨⟨h1, h8⟩, hf⟩ := h
    cases hp : prs ds with
    | none => rw [hp] at hf; cases hf
    | some l =>
      rw [hp] at hf
      obtain ⟨e, ok⟩ := prs_some hp
      subst e
      rw [List.length_map] at h1 h8
      exact ⟨l, rfl, ok, h1, h8, hf⟩
  | _ => cases h
theorem dealing_yes {l : List Pr} (h : okD l) : isDealing (dlD l) = true := by
  show isDealing (.tup (l.map stepD)) = true
  rw [isDealing_eq, prs_of h.1, List.length_map, decide_eq_true h.2.1, decide_eq_true h.2.2.1]
  exact h.2.2.2
theorem dealings_all : ∀ {ds : List D}, ds.all isDealing = true → ∃ ls : List (List Pr), ds = ls.map dlD ∧ ∀ l ∈ ls, okD l
  | [], _ => ⟨[], rfl, fun l hl => absurd hl List.not_mem_nil⟩
  | d :: ds, h => by
    rw [List.all_cons, Bool.and_eq_true] at h
    obtain ⟨l, rfl, ok⟩ := dealing_of h.1
    obtain ⟨ls, rfl, oks⟩ := dealings_all h.2
    exact ⟨l :: ls, rfl, fun m hm => (List.mem_cons.mp hm).elim (fun e => by rw [e]; exact ok) (oks m)⟩
theorem dealings_of {d : D} (h : areDealings d = true) : ∃ ls : List (List Pr), d = dsD ls ∧ (∀ l ∈ ls, okD l) ∧ 1 ≤ ls.length ∧ ls.length ≤ 100 := by
  cases d with
  | lst ds =>
    rw [areDealings_eq, Bool.and_eq_true, Bool.and_eq_true, decide_eq_true_eq, decide_eq_true_eq] at h
    obtain ⟨⟨h1, h2⟩, h3⟩ := h
    obtain ⟨ls, rfl, ok⟩ := dealings_all h3
    rw [List.length_map] at h1 h2
    exact ⟨ls, rfl, ok, h1, h2⟩
  | _ => cases h
theorem dealings_yes {ls : List (List Pr)} (h : ∀ l ∈ ls, okD l) (h1 : 1 ≤ ls.length) (h2 : ls.length ≤ 100) : areDealings (dsD ls) = true := by
  show areDealings (.lst (ls.map dlD)) = true
  rw [areDealings_eq, List.length_map, decide_eq_true h1, decide_eq_true h2]
  show (ls.map dlD).all isDealing = true
  rw [List.all_map, List.all_eq_true]
  exact fun l hl => dealing_yes (h l hl)
section
variable {P : Program} {w : World} {K : PySem.W.Frag} {mg : Str → Option Value} {base : Heap} {CA CS CO : Addr}
/-! ### check_dealings -/
def spCheckS (CS : Addr) : Sp := fun vs H Q E => ∃ st v d, vs = [v] ∧ TD st H v d ∧ (areDealings d = true → ∀ H', Same H H' → Q .non H') ∧ (areDealings d = false → ∀ H', Same H H' → E (.ref CS) none H')
theorem ok_checkS {f f1 : Addr} {fd fd1 : FuncData} {k : Nat} (F : Fun K "check_dealings" "check_dealings" sCheckS f fd) (T : Er K mg "NoDealings" CA CS) (G1 : FnOk P w K mg base CX0 k f1 fd1 ["thing"] (spD areDealings)) (g1 : mg "are_dealings" = some (.ref f1)) (k1 : PySem.W.keepIn K (.ref f1) = true) (b1 : Binds K fd1 ["thing"] []) :
    FnOk P w K mg base (L2.CX P w) (k + 1) f fd ["thing"] (spCheckS CS) := by
  refine F.okX scCheckS (fun vs H Q E h => ?_) (fun cdv A outer s H vs Q E hr h => ?_)
  · obtain ⟨st, v, d, rfl, _⟩ := h
    rfl
  · obtain ⟨st, v, d, rfl, td, q1, q2⟩ := h
    refine ⟨_, pss_one (ps_if (pt_not (pt_val (pe_call G1 hr (by rfl) g1 k1 b1 .nil pass0 (pa_cons (pv 0) pa_nil)))) (pss_one (ps_raise rfl (takes_of rfl rfl rfl rfl) (pmk_own PySem.F.excBase_ValueError T.x T.g T.k (raises_own T.b T.t) (by rfl)))) pss_nil), ?_⟩
    refine ⟨v, rfl, st, v, d, rfl, td, fun H1 e1 => ⟨_, rfl, ?_⟩⟩
    cases hd : areDealings d with
    | true => exact iteF (q1 hd H1 e1)
    | false => exact iteT (q2 hd H1 e1)
/-! ### turns_of -/
def turnsOf (ls : List (List Pr)) : List Int := ls.map fun l => (l.length : Int) + 1
def spTurns : Sp := fun vs H Q _ => ∃ (st : Addr) (v : V) (ls : List (List Pr)), vs = [v] ∧ TD st H v (dsD ls) ∧ ls.length ≤ 200 ∧ ∀ p H', H p = none → Same H H' → H' p = some (.lst ((turnsOf ls).map V.int)) → Q (.ref p) H'
theorem ok_turns {f : Addr} {fd : FuncData} {k : Nat} (F : Fun K "turns_of" "turns_of" sTurns f fd) (M : Mg mg) : FnOk P w K mg base CX0 (k + 1) f fd ["dealings"] spTurns := by
  refine F.ok scTurns (fun vs H Q E h => ?_) (fun cdv A outer s H vs Q E hr h => ?_)
  · obtain ⟨st, v, ls, rfl, _⟩ := h
    rfl
  · obtain ⟨st, v, ls, rfl, td, h200, q⟩ := h
    refine ⟨_, pss_one (ps_ret (pe_lc (own := [("dealing", 1)]) (g := gName 1) (by rfl) scTurns.nd (pi_list (pv 0)) (blkOk_by (own := [("dealing", 1)]) (N := ["dealings", "dealing"]) (sc := defScope sTurns) (by decide +kernel))
        (fun _ _ _ _ _ => pg_name (i := 1) scTurns.nd rfl (Or.inl rfl)) (fun _ _ _ _ _ => pts_nil) (fun _ _ _ _ _ => pe_add (pe_callB (show CallR _ (.builtin "len") (fun xs H Q => ∃ p ys, xs = [.ref p] ∧ (SqL K H p ys ∨ SqT K H p ys) ∧ Q (.int ys.length) H) from call_len_seq) (by rfl) M.len PySem.boot_len (pa_cons (pv 1) pa_nil)) pe_int))), ?_⟩
    cases td with
    | @lst a xs _ n h t =>
    have hl : xs.length = ls.length := by rw [t.length, List.length_map]
    refine ⟨.ref a, rfl, a, rfl, ⟨_, SqL.of h⟩, fun D1 hD1 => lc_kept (walk_list (xs := xs)) (fun _ => true) (fun i => .int (((ls.getD i []).length : Int) + 1)) hD1 (by omega) (fun H' e => SqL.of (e _ _ h)) (fun i x H2 H3 N R hi e2 y hN hR => ?_) (fun H2 e2 hL => ?_)⟩
    · obtain ⟨rfl, hx⟩ := y
      obtain ⟨d, hd, tdi⟩ := t.get hx
      have hil : i < ls.length := by omega
      have ed : dlD ls[i] = d := by
        rw [List.getElem?_map, List.getElem?_eq_getElem hil] at hd
        exact Option.some.inj hd
      subst ed
      have eg : ls.getD i [] = ls[i] := by rw [List.getD_eq_getElem?_getD, List.getElem?_eq_getElem hil]; rfl
      simp only [eg] at hR
      cases tdi with
      | @tup b ys _ nb hb tb =>
      have hlb : ys.length = ls[i].length := by rw [tb.length, List.length_map]
      refine ⟨rfl, yesI ⟨.ref b, rfl, b, ys, rfl, .inr (SqT.of (e2 _ _ hb)), _, 1, rfl, rfl, ?_⟩⟩
      rw [hlb]
      exact hR trivial _ (Same.refl _)
    · refine q D1 H2 hD1 e2 ?_
      rw [hL, kept_all]
      congr 2
      unfold turnsOf
      rw [hl, List.map_map]
      have e : (List.range ls.length).map (fun i => ls.getD i []) = ls := map_range ls _ fun i x hx => by rw [List.getD_eq_getElem?_getD, hx]; rfl
      conv => rhs; rw [← e]
      rw [List.map_map]
      rfl
/-! ### is_order -/
def rng (n : Nat) : List Int := (List.range n).map fun (i : Nat) => (i : Int)
theorem rng_le (n : Nat) : (rng n).Pairwise (· ≤ ·) := by
  unfold rng
  rw [List.pairwise_map]
  exact List.pairwise_lt_range.imp fun h => by omega
theorem rng_mem {n : Nat} {k : Int} : k ∈ rng n ↔ 0 ≤ k ∧ k < n := by
  unfold rng
  rw [List.mem_map]
  constructor
  · rintro ⟨i, hi, rfl⟩
    have := List.mem_range.mp hi
    omega
  · rintro ⟨h1, h2⟩
    exact ⟨k.toNat, List.mem_range.mpr (by omega), by omega⟩
def intsOf : List D → Option (List Int)
  | [] => some []
  | .int i :: ds => (intsOf ds).map (i :: ·)
  | _ :: _ => none
theorem intsOf_some : ∀ {ds : List D} {ns : List Int}, intsOf ds = some ns → ds = ns.map D.int
  | [], ns, h => by
    have e : [] = ns := Option.some.inj h
    subst e
    rfl
  | .int i :: ds, ns, h => by
    cases hd : intsOf ds with
    | none => unfold intsOf at h; rw [hd] at h; cases h
    | some ms =>
      unfold intsOf at h
      rw [hd] at h
      have e : i :: ms = ns := Option.some.inj h
      subst e
      rw [intsOf_some hd]
      rfl
theorem intsOf_map (ns : List Int) : intsOf (ns.map D.int) = some ns := by
  induction ns with
  | nil => rfl
  | cons n ns ih =>
    show (intsOf (ns.map D.int)).map (n :: ·) = _
    rw [ih]
    rfl
theorem ints_nums {n : Int} : ∀ {ds : List D}, (ds.all fun d => numB d n) = true → ∃ ns : List Int, ds = ns.map D.int
  | [], _ => ⟨[], rfl⟩
  | d :: ds, h => by
    rw [List.all_cons, Bool.and_eq_true] at h
    obtain ⟨ns, rfl⟩ := ints_nums h.2
    cases d with
    | int i => exact ⟨i :: ns, rfl⟩
    | _ => cases h.1
/-- whether d is an order of n dealings -/
def ordB (n : Nat) : D → Bool
  | .lst ds => (ds.all fun d => numB d n) && match intsOf ds with
    | some ns => decide (ns.Perm (rng n))
    | none => false
  | _ => false
theorem eqv_ints : ∀ a b : List Int, PyData.eqv (.list (a.map PyData.int)) (.list (b.map PyData.int)) = decide (a = b) := by
  have half : ∀ a b : List Int, PyData.eqvAll (a.map PyData.int) (b.map PyData.int) = decide (a = b) := by
    intro a
    induction a with
    | nil =>
      intro b
      cases b with
      | nil => simp [PyData.eqvAll]
      | cons y b => simp [PyData.eqvAll]
    | cons x a ih =>
      intro b
      cases b with
      | nil => simp [PyData.eqvAll]
      | cons y b =>
        simp only [List.map_cons, PyData.eqvAll, PyData.eqv, ih b]
        by_cases h1 : x = y
        · by_cases h2 : a = b
          · subst h1 h2
            simp
          · simp [h1, h2]
        · simp [h1]
  intro a b
  simp only [PyData.eqv]
  exact half a b
theorem lay_ints : ∀ ns : List Int, PyData.canLayAll0 (ns.map PyData.int) = true
  | [] => by simp [PyData.canLayAll0]
  | n :: ns => by simp [PyData.canLayAll0, PyData.canLay0, lay_ints ns]
theorem depth_ints : ∀ ns : List Int, PyData.depthAll (ns.map PyData.int) = 0
  | [] => by simp [PyData.depthAll]
  | n :: ns => by simp [PyData.depthAll, PyData.depth, depth_ints ns]
theorem shaped_of {ds : List PyData} (h1 : PyData.canLayAll0 ds = true) (h2 : PyData.depthAll ds ≤ 60) : SeqAt.shaped (.list ds) = true := by
  show (PyData.canLay0 (.list ds) && decide (PyData.depth (.list ds) ≤ 64)) = true
  rw [Bool.and_eq_true]
  refine ⟨by simp only [PyData.canLay0]; exact h1, decide_eq_true ?_⟩
  simp only [PyData.depth]
  omega
theorem shaped_ints (ns : List Int) : SeqAt.shaped (.list (ns.map PyData.int)) = true := shaped_of (lay_ints ns) (by rw [depth_ints]; omega)
theorem dp_ints {H : Hp} : ∀ ns : List Int, DpAll K H (ns.map V.int) (ns.map PyData.int)
  | [] => .nil
  | n :: ns => .cons (.int n) (dp_ints ns)
theorem tds_ints {st : Addr} {H : Hp} : ∀ {ns : List Int} {xs : List V}, TDs st H xs (ns.map D.int) → xs = ns.map V.int
  | [], _, h => by
    cases h
    rfl
  | n :: ns, _, h => by
    cases h with
    | cons h t =>
      cases h
      rw [tds_ints t]
      rfl
theorem ints_tds {st : Addr} {H : Hp} : ∀ ns : List Int, TDs st H (ns.map V.int) (ns.map D.int)
  | [] => .nil
  | n :: ns => .cons (.int n) (ints_tds ns)
end
end As

namespace As
open PySem PySem.Spec PyProof.Rows L2
theorem rng_len (n : Nat) : (rng n).length = n := by
  unfold rng
  rw [List.length_map, List.length_range]
end As

namespace As
open PySem PySem.Spec PyProof.Rows L2
abbrev sCellAt : Stmt := topS 23
abbrev sWell : Stmt := topS 24
abbrev sDraw : Stmt := topS 25
theorem scCellAt : FnScope ["_law_script", "_law_k"] ["_law_script", "_law_k"] (defScope sCellAt) := ⟨rfl, rfl, rfl, by decide +kernel, rfl, by decide +kernel, by decide +kernel⟩
theorem scWell : FnScope ["_law_cell"] ["_law_cell"] (defScope sWell) := ⟨rfl, rfl, rfl, by decide +kernel, rfl, by decide +kernel, by decide +kernel⟩
theorem scDraw : FnScope ["_law_well_here", "_law_many", "_law_found", "_law_number"] ["_law_well_here", "_law_many"] (defScope sDraw) := ⟨rfl, rfl, rfl, by decide +kernel, rfl, by decide +kernel, by decide +kernel⟩
section
variable {P : Program} {w : World} {K : PySem.W.Frag} {mg : Str → Option Value} {base : Heap}
/-! ### cell_at -/
def spCellAt (K : PySem.W.Frag) : Sp := fun vs H Q _ => ∃ (a : Addr) (k : Nat) (ns : List Int), vs = [.ref a, .int (k : Int)] ∧ SqL K H a (ns.map V.int) ∧ ∀ i, Q (.int i) H
theorem ok_cell_at {f : Addr} {fd : FuncData} {k : Nat} (F : Fun K "_law_cell_at" "_law_cell_at" sCellAt f fd) (M : Mg mg) : FnOk P w K mg base CX0 (k + 1) f fd ["_law_script", "_law_k"] (spCellAt K) := by
  refine F.ok scCellAt (fun vs H Q E h => ?_) (fun cdv A outer s H vs Q E hr h => ?_)
  · obtain ⟨a, k, ns, rfl, _⟩ := h
    rfl
  · obtain ⟨a, k, ns, rfl, hS, q⟩ := h
    refine ⟨_, pss_cons (ps_if (pt_cmpR op_lt (pv 1) (pe_callB call_len_seq (by rfl) M.len PySem.boot_len (pa_cons (pv 0) pa_nil)) (nomark _)) (pss_one (ps_ret (pe_ix ix_list (pv 0) (pv 1) (fun _ _ => rfl)))) pss_nil)
      (pss_one (ps_ret pe_int)), ?_⟩
    refine ⟨_, rfl, .ref a, rfl, a, _, rfl, .inl hS, _, _, rfl, rfl, _, rfl, ite2 (fun e => ?_) (fun e => ?_)⟩
    · have e' := of_decide_eq_true e
      have hk : k < ns.length := by
        rw [List.length_map] at e'
        omega
      refine ⟨.ref a, rfl, _, rfl, a, _, k, .int ns[k], rfl, rfl, hS, atI_nat ?_, q _⟩
      rw [List.getElem?_map, List.getElem?_eq_getElem hk]
      rfl
    · exact q 0
/-! ### the well -/
def Well (st : Addr) (H : Hp) : Prop := ∃ a b c : Int, H st = some (.lst [.int a, .int b, .int c])
theorem Well.same {st : Addr} {H H' : Hp} (e : Same H H') (h : Well st H) : Well st H' := by
  obtain ⟨a, b, c, h⟩ := h
  exact ⟨a, b, c, e _ _ h⟩
theorem Well.ne {st p : Addr} {H : Hp} (h : Well st H) (np : H p = none) : p ≠ st := by
  obtain ⟨a, b, c, h⟩ := h
  exact (ne_of_none h np).symm
def spWell : Sp := fun vs H Q _ => ∃ c : Int, vs = [.int c] ∧ ∀ p a b, H p = none → Q (.ref p) (upd H p (.lst [.int a, .int b, .int 0]))
theorem ok_well {f : Addr} {fd : FuncData} {k : Nat} (F : Fun K "_law_well" "_law_well" sWell f fd) (M : Mg mg) : FnOk P w K mg base CX0 (k + 1) f fd ["_law_cell"] spWell := by
  refine F.ok scWell (fun vs H Q E h => ?_) (fun cdv A outer s H vs Q E hr h => ?_)
  · obtain ⟨c, rfl, _⟩ := h
    rfl
  · obtain ⟨c, rfl, q⟩ := h
    refine ⟨_, pss_one (ps_ret (pe_lst (pa_cons (pe_op op_mul (pv 0) (pe_callTy call_int1 (by rfl) M.int (by decide +kernel) (pa_cons (pe_cmpR op_ge (pv 0) (pe_op op_pow pe_int pe_int) (nomark _)) pa_nil))) (pa_cons (pe_op op_mod (pv 0) pe_int) (pa_cons pe_int pa_nil))))), ?_⟩
    refine ⟨.int c, rfl, .int c, rfl, 10, 18, rfl, rfl, ⟨by decide, by decide, by decide⟩, c, _, rfl, rfl, .inr ⟨_, rfl, c, _, rfl, rfl, .inr ?_, .int c, rfl, c, 2147483629, rfl, rfl, (show (0 : Int) < 2147483629 by decide), by show 3 ≤ sizeLine; decide, fun p np => q p _ _ np⟩⟩
    cases decide ((10 : Int) ^ (18 : Int).toNat ≤ c)
    · exact ⟨by decide, by decide⟩
    · exact ⟨by decide, by decide⟩
def spDraw : Sp := fun vs H Q _ => ∃ (st : Addr) (b : Int), vs = [.ref st, .int b] ∧ Well st H ∧ 0 < b ∧ b < 1000000000 ∧ ∀ r H', 0 ≤ r → r < b → Well st H' → ExS st H H' → Q (.int r) H'
theorem ok_draw {f : Addr} {fd : FuncData} {k : Nat} (F : Fun K "_law_draw" "_law_draw" sDraw f fd) (M : Mg mg) : FnOk P w K mg base CX0 (k + 1) f fd ["_law_well_here", "_law_many"] spDraw := by
  refine F.ok scDraw (fun vs H Q E h => ?_) (fun cdv A outer s H vs Q E hr h => ?_)
  · obtain ⟨st, b, rfl, _⟩ := h
    rfl
  · obtain ⟨st, bs, rfl, hW, hb0, hb1, q⟩ := h
    refine ⟨_, pss_cons (ps_if (pt_cmpR op_gt (pe_ix ix_list (pv 0) pe_int (fun _ _ => rfl)) pe_int (nomark _))
        (pss_cons (ps_set (i := 2) scDraw.nd rfl (.inl rfl) (pe_op op_mod (pe_ix ix_list (pv 0) pe_int (fun _ _ => rfl)) (pv 1)))
        (pss_cons (ps_asg (pe_op op_fdiv (pe_ix ix_list (pv 0) pe_int (fun _ _ => rfl)) (pv 1)) (pg_sub (pv 0) pe_int set_list))
        (pss_one (ps_ret (pv 2))))) pss_nil)
      (pss_cons (ps_asg (pe_add (pe_ix ix_list (pv 0) pe_int (fun _ _ => rfl)) pe_int) (pg_sub (pv 0) pe_int set_list))
      (pss_cons (ps_set (i := 3) scDraw.nd rfl (.inl rfl) (pe_op op_mod (pe_op op_mul (pe_add (pe_add (pe_ix ix_list (pv 0) pe_int (fun _ _ => rfl)) (pe_op op_mul pe_int (pe_ix ix_list (pv 0) pe_int (fun _ _ => rfl)))) pe_int) pe_int) pe_int))
      (pss_cons (ps_set (i := 3) scDraw.nd rfl (.inl rfl) (pe_op op_mod (pe_op op_mul (pv 3) (pe_add (pe_add (pe_op op_fdiv (pv 3) pe_int) pe_int) (pe_ix ix_list (pv 0) pe_int (fun _ _ => rfl)))) pe_int))
      (pss_one (ps_ret (pe_op op_mod (pe_op op_fdiv (pe_op op_mod (pe_op op_mul (pv 3) (pe_add (pe_op op_fdiv (pv 3) pe_int) pe_int)) pe_int) pe_int) (pv 1))))))), ?_⟩
    obtain ⟨a, b, c, h⟩ := hW
    refine ⟨.ref st, rfl, st, _, 0, .int a, rfl, rfl, SqL.of h, rfl, a, 0, rfl, rfl, _, rfl, ite2 (fun e => ?_) (fun e => ?_)⟩
    · refine ⟨.ref st, rfl, st, _, 0, .int a, rfl, rfl, SqL.of h, rfl, .int bs, rfl, a, bs, rfl, rfl, hb0, ?_⟩
      refine ⟨.ref st, rfl, st, _, 0, .int a, rfl, rfl, SqL.of h, rfl, .int bs, rfl, a, bs, rfl, rfl, ⟨hb0, by omega⟩, .ref st, rfl, st, _, 0, 0, rfl, rfl, h, rfl, ?_⟩
      refine ⟨.int (a % bs), rfl, q _ _ (Int.emod_nonneg _ (by omega)) (Int.emod_lt_of_pos _ hb0) ⟨a / bs, b, c, upd_same⟩ ExS.at_⟩
    · refine ⟨.ref st, rfl, st, _, 2, .int c, rfl, rfl, SqL.of h, rfl, c, 1, rfl, rfl, .ref st, rfl, st, _, 2, 2, rfl, rfl, h, rfl, ?_⟩
      have h2 : (upd H st (.lst ([.int a, .int b, .int c].set 2 (.int (c + 1))))) st = some (.lst [.int a, .int b, .int (c + 1)]) := upd_same
      refine ⟨.ref st, rfl, st, _, 1, .int b, rfl, rfl, SqL.of h2, rfl, .ref st, rfl, st, _, 2, .int (c + 1), rfl, rfl, SqL.of h2, rfl, 86969, c + 1, rfl, rfl, .inl ⟨by decide, by decide⟩, b, 86969 * (c + 1), rfl, rfl, _, 1, rfl, rfl, _, 48271, rfl, rfl, .inr ⟨by decide, by decide⟩, _, 2147483629, rfl, rfl, (show (0 : Int) < 2147483629 by decide), ?_⟩
      obtain ⟨n, hn⟩ : ∃ n : Int, (b + 86969 * (c + 1) + 1) * 48271 % 2147483629 = n := ⟨_, rfl⟩
      have n0 : 0 ≤ n := by rw [← hn]; exact Int.emod_nonneg _ (by decide)
      have n1 : n < 2147483629 := by rw [← hn]; exact Int.emod_lt_of_pos _ (by decide)
      refine ⟨.int n, by rw [← hn]; rfl, .int n, by rw [← hn]; rfl, n, 1013, rfl, rfl, ⟨by decide, by decide⟩, _, 69623, rfl, rfl, .ref st, rfl, st, _, 2, .int (c + 1), rfl, rfl, SqL.of h2, rfl, _, c + 1, rfl, rfl, n, _, rfl, rfl, .inl ⟨by omega, by omega⟩, _, 2147483587, rfl, rfl, (show (0 : Int) < 2147483587 by decide), ?_⟩
      obtain ⟨m, hm⟩ : ∃ m : Int, n * (n / 1013 + 69623 + (c + 1)) % 2147483587 = m := ⟨_, rfl⟩
      have m0 : 0 ≤ m := by rw [← hm]; exact Int.emod_nonneg _ (by decide)
      have m1 : m < 2147483587 := by rw [← hm]; exact Int.emod_lt_of_pos _ (by decide)
      refine ⟨.int m, by rw [← hm]; rfl, .int m, by rw [← hm]; rfl, m, 2003, rfl, rfl, ⟨by decide, by decide⟩, _, 40692, rfl, rfl, m, _, rfl, rfl, .inl ⟨by omega, by omega⟩, _, 2147483563, rfl, rfl, (show (0 : Int) < 2147483563 by decide), _, 3, rfl, rfl, ⟨by decide, by decide⟩, .int bs, rfl, _, bs, rfl, rfl, hb0, ?_⟩
      exact q _ _ (Int.emod_nonneg _ (by omega)) (Int.emod_lt_of_pos _ hb0) ⟨a, b, c + 1, upd_same⟩ ExS.at_
end
end As

namespace As
open PySem PySem.Spec PyProof.Rows L2
/-! ### a list beside the empty one -/
def rEqNil (K : PySem.W.Frag) : R2 := fun x y H Q => ∃ a b xs, x = .ref a ∧ y = .ref b ∧ SqL K H a xs ∧ SqL K H b [] ∧ Q (.bl xs.isEmpty) H
theorem op_eqNil {X : Cx} (hu : X.A.units < cLine) : OpR X (compareOp .Eq) (rEqNil X.K) := by
  intro pins s σ H x y v u Q I rx ry h
  obtain ⟨a, b, xs, rfl, rfl, ha, hb, q⟩ := h
  cases rx
  cases ry
  obtain ⟨its, rv, p1, _⟩ := I.list ha
  obtain ⟨its2, rv2, p2, _⟩ := I.list hb
  cases rv2
  cases xs with
  | nil =>
    cases rv
    exact SeqAt.eq_listAt p1.isList p2.isList rfl hu (e := fun _ => true) (fun j h1 _ => absurd h1 (Nat.not_lt_zero _)) ⟨.bl true, H, I, rfl, q⟩
  | cons x xs =>
    cases rv with
    | cons r1 r2 => exact SeqAt.eq_list_lengthsAt p1.isList p2.isList (by simp) hu ⟨.bl false, H, I, rfl, q⟩
/-! ### data picked, cut, put together -/
theorem TDs.pick {st : Addr} {H : Hp} {xs : List V} {ds : List D} {r : Int} (t : TDs st H xs ds) (h0 : 0 ≤ r) (h1 : r < xs.length) : ∃ v d, atI xs r = some v ∧ TD st H v d := by
  obtain ⟨j, rfl⟩ : ∃ j : Nat, r = (j : Int) := ⟨r.toNat, by omega⟩
  have hj : j < xs.length := by omega
  have hx : xs[j]? = some xs[j] := List.getElem?_eq_getElem hj
  obtain ⟨d, _, td⟩ := t.get hx
  exact ⟨xs[j], d, atI_nat hx, td⟩
theorem cat_ok {K : PySem.W.Frag} {st a b : Addr} {H : Hp} {ds es : List D} {Q : VK} (W : Well st H) (ta : TD st H (.ref a) (.tup ds)) (tb : TD st H (.ref b) (.tup es)) (hl : ds.length + es.length ≤ 1000)
    (q : ∀ c H', TD st H' (.ref c) (.tup (ds ++ es)) → Same H H' → Q (.ref c) H') : rCatA K (.ref a) (.ref b) H Q := by
  cases ta with
  | @tup a xs _ na ha t1 =>
    cases tb with
    | @tup b ys _ nb hb t2 =>
      have l1 := t1.length
      have l2 := t2.length
      refine ⟨a, b, xs, ys, rfl, rfl, SqT.of ha, SqT.of hb, sl_of (by omega), fun e => ?_, fun _ e => ?_, fun _ _ p np => ?_⟩
      · subst e
        cases t1
        exact q b H (.tup nb hb t2) (Same.refl H)
      · subst e
        cases t2
        refine q a H ?_ (Same.refl H)
        rw [List.append_nil]
        exact .tup na ha t1
      · exact q p _ (.tup (W.ne np) upd_same ((t1.append t2).mono (ExS.new np))) (same_new np)
theorem sl_ok {K : PySem.W.Frag} {st a : Addr} {H : Hp} {ds : List D} {lo hi : Option Int} {Q : VK} (W : Well st H) (ta : TD st H (.ref a) (.tup ds))
    (q : ∀ c H' es, TD st H' (.ref c) (.tup es) → es.length ≤ ds.length → Same H H' → Q (.ref c) H') : rSlA K (.ref a) lo hi H Q := by
  cases ta with
  | @tup a xs _ na ha t1 =>
    have l1 := t1.length
    refine ⟨a, xs, rfl, SqT.of ha, fun _ => q a H ds (.tup na ha t1) (Nat.le_refl _) (Same.refl H), fun _ p np => ?_⟩
    have t2 := (t1.drop (HT.sIx xs.length 0 lo)).take (HT.sIx xs.length xs.length hi - HT.sIx xs.length 0 lo)
    refine q p _ _ (.tup (W.ne np) upd_same (t2.mono (ExS.new np))) ?_ (same_new np)
    rw [List.length_take, List.length_drop]
    omega
theorem slL_ok {K : PySem.W.Frag} {st a : Addr} {H : Hp} {ds : List D} {lo hi : Option Int} {Q : VK} (W : Well st H) (ta : TD st H (.ref a) (.lst ds))
    (q : ∀ c H' es, TD st H' (.ref c) (.lst es) → es.length ≤ ds.length → Same H H' → Q (.ref c) H') : rSlL K (.ref a) lo hi H Q := by
  cases ta with
  | @lst a xs _ na ha t1 =>
    have l1 := t1.length
    refine ⟨a, xs, rfl, SqL.of ha, fun p np => ?_⟩
    have t2 := (t1.drop (HT.sIx xs.length 0 lo)).take (HT.sIx xs.length xs.length hi - HT.sIx xs.length 0 lo)
    refine q p _ _ (.lst (W.ne np) upd_same (t2.mono (ExS.new np))) ?_ (same_new np)
    rw [List.length_take, List.length_drop]
    omega
theorem catL_ok {st a b : Addr} {H : Hp} {ds es : List D} {Q : VK} (W : Well st H) (ta : TD st H (.ref a) (.lst ds)) (tb : TD st H (.ref b) (.lst es)) (hl : ds.length + es.length ≤ 1000)
    (q : ∀ c H', TD st H' (.ref c) (.lst (ds ++ es)) → Same H H' → Q (.ref c) H') : rCat (.ref a) (.ref b) H Q := by
  cases ta with
  | @lst a xs _ na ha t1 =>
    cases tb with
    | @lst b ys _ nb hb t2 =>
      have l1 := t1.length
      have l2 := t2.length
      exact ⟨a, b, xs, ys, rfl, rfl, ha, hb, sl_of (by omega), fun p np => q p _ (.lst (W.ne np) upd_same ((t1.append t2).mono (ExS.new np))) (same_new np)⟩
/-! ### lists of steps -/
theorem prs_one {ds : List D} {l : List Pr} {d : D} {p : Pr} : prs ds = some l → asPr d = some p → prs (ds ++ [d]) = some (l ++ [p]) := by
  intro h1 h2
  obtain ⟨e1, w1⟩ := prs_some h1
  obtain ⟨e2, w2⟩ := asPr_some h2
  have e : ds ++ [d] = (l ++ [p]).map stepD := by
    rw [e1, e2, List.map_append]
    rfl
  rw [e]
  refine prs_of fun q hq => ?_
  rcases List.mem_append.mp hq with h | h
  · exact w1 q h
  · rw [List.mem_singleton.mp h]
    exact w2
theorem prs_take {ds : List D} {l : List Pr} (h : prs ds = some l) (i : Nat) : prs (ds.take i) = some (l.take i) := by
  obtain ⟨e1, w1⟩ := prs_some h
  rw [e1, ← List.map_take]
  exact prs_of fun q hq => w1 q (List.mem_of_mem_take hq)
theorem follow_all {m : Pr → List Pr → Bool} {l : List Pr} (h : ∀ i p, l[i]? = some p → m p (l.take i) = true) : follow m l = true := by
  unfold follow
  rw [List.all_eq_true]
  intro i _
  split
  · rename_i p hp
    exact h i p hp
  · rfl
theorem follow_not {m : Pr → List Pr → Bool} {l : List Pr} {i : Nat} {p : Pr} (hp : l[i]? = some p) (h : m p (l.take i) = false) : follow m l = false := by
  cases hf : follow m l with
  | false => rfl
  | true =>
    unfold follow at hf
    rw [List.all_eq_true] at hf
    have := hf i (List.mem_range.mpr (List.getElem?_eq_some_iff.mp hp).1)
    rw [hp] at this
    have this' : m p (l.take i) = true := this
    rw [h] at this'
    exact absurd this' Bool.false_ne_true
theorem isDealing_noStep {ds : List D} {d : D} {i : Nat} (hd : ds[i]? = some d) (h : isStep d = false) : isDealing (.tup ds) = false := by
  have hn : prs ds = none := by
    cases hp : prs ds with
    | none => rfl
    | some l =>
      have h1 := prs_isSome ds
      rw [hp] at h1
      have h2 : ds.all isStep = true := h1.symm
      rw [List.all_eq_true] at h2
      have := h2 d (List.mem_of_getElem? hd)
      rw [h] at this
      exact absurd this Bool.false_ne_true
  rw [isDealing_eq, hn, Bool.and_false]
theorem isDealing_noFollow {ds : List D} {d : D} {l : List Pr} {p : Pr} {i : Nat} (hd : ds[i]? = some d) (hp : asPr d = some p) (hl : prs (ds.take i) = some l) (h : mayP p l = false) : isDealing (.tup ds) = false := by
  rw [isDealing_eq]
  cases hq : prs ds with
  | none => rw [Bool.and_false]
  | some m =>
    have e1 : l = m.take i := Option.some.inj (hl.symm.trans (prs_take hq i))
    obtain ⟨e2, w2⟩ := prs_some hq
    have e3 : m[i]? = some p := by
      rw [e2, List.getElem?_map] at hd
      cases hm : m[i]? with
      | none => rw [hm] at hd; cases hd
      | some q =>
        rw [hm] at hd
        have e4 : stepD q = d := Option.some.inj hd
        have wq := w2 q (List.mem_of_getElem? hm)
        rw [← e4, asPr_step wq.1 wq.2] at hp
        exact hp
    rw [e1] at h
    show (_ && follow mayP m) = false
    rw [follow_not e3 h, Bool.and_false]
end As

namespace As
open PySem PySem.Spec PyProof.Rows L2
abbrev sOne : Stmt := topS 26
abbrev sBoxes : Stmt := topS 27
abbrev sDealing : Stmt := topS 28
abbrev sDealings : Stmt := topS 29
theorem scOne : FnScope ["_law_well_here", "_law_some"] ["_law_well_here", "_law_some"] (defScope sOne) := ⟨rfl, rfl, rfl, by decide +kernel, rfl, by decide +kernel, by decide +kernel⟩
theorem scBoxes : FnScope ["_law_well_here"] ["_law_well_here"] (defScope sBoxes) := ⟨rfl, rfl, rfl, by decide +kernel, rfl, by decide +kernel, by decide +kernel⟩
theorem scDealing : FnScope ["_law_well_here", "_law_boxes_here", "_law_most", "_law_steps", "_law_k", "_law_step"] ["_law_well_here", "_law_boxes_here", "_law_most"] (defScope sDealing) := ⟨rfl, rfl, rfl, by decide +kernel, rfl, by decide +kernel, by decide +kernel⟩
theorem scDealings : FnScope ["_law_well_here", "_law_many", "_law_most", "_law_boxes_here", "_law_k"] ["_law_well_here", "_law_many", "_law_most"] (defScope sDealings) := ⟨rfl, rfl, rfl, by decide +kernel, rfl, by decide +kernel, by decide +kernel⟩
section
variable {P : Program} {w : World} {K : PySem.W.Frag} {mg : Str → Option Value} {base : Heap}
/-! ### one -/
theorem TDs.pickIn {st : Addr} {H : Hp} {xs : List V} {ds : List D} {r : Int} (t : TDs st H xs ds) (h0 : 0 ≤ r) (h1 : r < xs.length) : ∃ v d, atI xs r = some v ∧ TD st H v d ∧ d ∈ ds := by
  obtain ⟨j, rfl⟩ : ∃ j : Nat, r = (j : Int) := ⟨r.toNat, by omega⟩
  have hj : j < xs.length := by omega
  have hx : xs[j]? = some xs[j] := List.getElem?_eq_getElem hj
  obtain ⟨d, hd, td⟩ := t.get hx
  exact ⟨xs[j], d, atI_nat hx, td, List.mem_of_getElem? hd⟩
def spOne : Sp := fun vs H Q _ => ∃ (st a : Addr) (xs : List V) (ds : List D), vs = [.ref st, .ref a] ∧ Well st H ∧ a ≠ st ∧ H a = some (.lst xs) ∧ TDs st H xs ds ∧ 1 ≤ xs.length ∧ xs.length ≤ 1000 ∧ ∀ v d H', TD st H' v d → d ∈ ds → Well st H' → ExS st H H' → Q v H'
theorem ok_one {f f1 : Addr} {fd fd1 : FuncData} {k : Nat} (F : Fun K "_law_one" "_law_one" sOne f fd) (M : Mg mg) (G1 : FnOk P w K mg base CX0 k f1 fd1 ["_law_well_here", "_law_many"] spDraw) (g1 : mg "_law_draw" = some (.ref f1)) (k1 : PySem.W.keepIn K (.ref f1) = true) (b1 : Binds K fd1 ["_law_well_here", "_law_many"] []) :
    FnOk P w K mg base CX0 (k + 1) f fd ["_law_well_here", "_law_some"] spOne := by
  refine F.ok scOne (fun vs H Q E h => ?_) (fun cdv A outer s H vs Q E hr h => ?_)
  · obtain ⟨st, a, xs, ds, rfl, _⟩ := h
    rfl
  · obtain ⟨st, a, xs, ds, rfl, hW, na, ha, t, h1, h2, q⟩ := h
    refine ⟨_, pss_one (ps_ret (pe_ix ix_list (pv 1) (pe_call G1 hr (by rfl) g1 k1 b1 .nil pass0 (pa_cons (pv 0) (pa_cons (pe_callB call_len_seq (by rfl) M.len PySem.boot_len (pa_cons (pv 1) pa_nil)) pa_nil))) (fun _ _ => rfl))), ?_⟩
    refine ⟨.ref a, rfl, .ref st, rfl, .ref a, rfl, a, xs, rfl, .inl (SqL.of ha), st, (xs.length : Int), rfl, hW, by omega, by omega, fun r H1 r0 r1 W1 e1 => ?_⟩
    obtain ⟨v, d, av, tv, md⟩ := (t.mono e1).pickIn r0 r1
    exact ⟨a, xs, r, v, rfl, rfl, SqL.of (e1 _ _ na ha), av, q v d H1 tv md W1 e1⟩
/-! ### boxes -/
def spBoxes : Sp := fun vs H Q _ => ∃ (st : Addr), vs = [.ref st] ∧ Well st H ∧ ∀ (p : Addr) (bs : List Int) (H' : Hp), 1 ≤ bs.length → bs.length ≤ 10 → (∀ b ∈ bs, boxB b = true) → p ≠ st → H p = none → H' p = some (.lst (bs.map V.int)) → Well st H' → ExS st H H' → Q (.ref p) H'
theorem ok_boxes {f f1 : Addr} {fd fd1 : FuncData} {k : Nat} (F : Fun K "_law_boxes" "_law_boxes" sBoxes f fd) (M : Mg mg) (G1 : FnOk P w K mg base CX0 k f1 fd1 ["_law_well_here", "_law_many"] spDraw) (g1 : mg "_law_draw" = some (.ref f1)) (k1 : PySem.W.keepIn K (.ref f1) = true) (b1 : Binds K fd1 ["_law_well_here", "_law_many"] []) :
    FnOk P w K mg base CX0 (k + 1) f fd ["_law_well_here"] spBoxes := by
  refine F.ok scBoxes (fun vs H Q E h => ?_) (fun cdv A outer s H vs Q E hr h => ?_)
  · obtain ⟨st, rfl, _⟩ := h
    rfl
  · obtain ⟨st, rfl, hW, q⟩ := h
    refine ⟨_, pss_cons (ps_if (pt_cmpR op_eq (pe_call G1 hr (by rfl) g1 k1 b1 .nil pass0 (pa_cons (pv 0) (pa_cons pe_int pa_nil))) pe_int (nomark _))
        (pss_one (ps_ret (pe_lst (pa_cons (pe_op op_pow pe_int pe_int) (pa_cons (pe_call G1 hr (by rfl) g1 k1 b1 .nil pass0 (pa_cons (pv 0) (pa_cons (pe_op op_pow pe_int pe_int) pa_nil))) (pa_cons (pe_sub (pe_add (pe_op op_pow pe_int pe_int) pe_int) (pe_op op_mul pe_int (pe_op op_pow pe_int pe_int))) pa_nil)))))) pss_nil)
      (pss_one (ps_ret (pe_listRg rfl (by rfl) M.list (prg_1 (by rfl) M.range (pe_add pe_int (pe_call G1 hr (by rfl) g1 k1 b1 .nil pass0 (pa_cons (pv 0) (pa_cons pe_int pa_nil)))))))), ?_⟩
    have free : ∀ {H1 : Hp} {p : Addr}, ExS st H H1 → Well st H1 → H1 p = none → H p = none := fun {H1 p} e1 W1 hp => by
      cases hq : H p with
      | none => rfl
      | some o =>
        by_cases z : p = st
        · exact absurd z (W1.ne hp)
        · rw [e1 p o z hq] at hp
          cases hp
    refine ⟨.ref st, rfl, st, 8, rfl, hW, by decide, by decide, fun r H1 r0 r1 W1 e1 => ⟨rfl, _, rfl, ite2 (fun _ => ?_) (fun _ => ?_)⟩⟩
    · refine ⟨10, 8, rfl, rfl, ⟨by decide, by decide, by decide⟩, .ref st, rfl, 10, 8, rfl, rfl, ⟨by decide, by decide, by decide⟩, st, 100000000, rfl, W1, by decide, by decide, fun r2 H2 r20 r21 W2 e2 => ?_⟩
      refine ⟨10, 8, rfl, rfl, ⟨by decide, by decide, by decide⟩, _, 1, rfl, rfl, 10, 7, rfl, rfl, ⟨by decide, by decide, by decide⟩, 2, _, rfl, rfl, .inl ⟨by decide, by decide⟩, _, _, rfl, rfl, by show 3 ≤ sizeLine; decide, fun p np => ?_⟩
      refine q p [100000000, r2, 80000001] _ (show 1 ≤ 3 by decide) (show 3 ≤ 10 by decide) (fun b hb => ?_) (W2.ne np) (free (e1.trans e2) W2 np) upd_same (W2.same (same_new np)) ((e1.trans e2).trans (ExS.new np))
      have hr2 : boxB r2 = true := by
        unfold boxB
        rw [decide_eq_true r20, decide_eq_true (show r2 ≤ 100000000 by omega)]
        rfl
      simp only [List.mem_cons, List.not_mem_nil, or_false] at hb
      rcases hb with rfl | rfl | rfl
      · decide
      · exact hr2
      · decide
    · refine ⟨.ref st, rfl, st, 4, rfl, W1, by decide, by decide, fun r2 H2 r20 r21 W2 e2 => ⟨2, r2, rfl, rfl, 2 + r2, rfl, RgOk.of_le (by omega) (by omega) (by omega) (by omega), fun p np => ?_⟩⟩
      obtain ⟨n, hn⟩ : ∃ n : Nat, 2 + r2 = (n : Int) := ⟨(2 + r2).toNat, by omega⟩
      have er : rgV 0 (2 + r2) = (rng n).map V.int := by
        rw [hn]
        unfold rgV rng
        rw [List.map_map, show (((n : Nat) : Int) - 0).toNat = n by omega]
        refine List.map_congr_left fun i _ => ?_
        show V.int (0 + (i : Nat)) = V.int (i : Nat)
        rw [Int.zero_add]
      refine q p (rng n) _ (by rw [rng_len]; omega) (by rw [rng_len]; omega) (fun b hb => ?_) (W2.ne np) (free (e1.trans e2) W2 np) (by rw [upd_same, er]) (W2.same (same_new np)) ((e1.trans e2).trans (ExS.new np))
      have hb' := rng_mem.mp hb
      unfold boxB
      rw [decide_eq_true hb'.1, decide_eq_true (show b ≤ 100000000 by omega)]
      rfl
/-! ### dealing -/
def StepsOk (l : List Pr) : Prop := ∀ p ∈ l, wordB p.1 = true ∧ boxB p.2 = true
def spDealing : Sp := fun vs H Q _ => ∃ (st pb : Addr) (bs : List Int) (m : Int), vs = [.ref st, .ref pb, .int m] ∧ Well st H ∧ pb ≠ st ∧ H pb = some (.lst (bs.map V.int)) ∧ 1 ≤ bs.length ∧ bs.length ≤ 10 ∧ (∀ b ∈ bs, boxB b = true) ∧ 0 < m ∧ m ≤ 8 ∧
  ∀ v l H', TD st H' v (dlD l) → okD l → Well st H' → ExS st H H' → Q v H'
theorem ok_dealing {f f1 f2 : Addr} {fd fd1 fd2 : FuncData} {k : Nat} (F : Fun K "_law_dealing" "_law_dealing" sDealing f fd) (M : Mg mg) (G1 : FnOk P w K mg base CX0 k f1 fd1 ["_law_well_here", "_law_many"] spDraw) (g1 : mg "_law_draw" = some (.ref f1)) (k1 : PySem.W.keepIn K (.ref f1) = true) (b1 : Binds K fd1 ["_law_well_here", "_law_many"] [])
    (G2 : FnOk P w K mg base CX0 k f2 fd2 ["_law_well_here", "_law_some"] spOne) (g2 : mg "_law_one" = some (.ref f2)) (k2 : PySem.W.keepIn K (.ref f2) = true) (b2 : Binds K fd2 ["_law_well_here", "_law_some"] []) :
    FnOk P w K mg base CX0 (k + 1) f fd ["_law_well_here", "_law_boxes_here", "_law_most"] spDealing := by
  refine F.ok scDealing (fun vs H Q E h => ?_) (fun cdv A outer s H vs Q E hr h => ?_)
  · obtain ⟨st, pb, bs, m, rfl, _⟩ := h
    rfl
  · obtain ⟨st, pb, bs, m, rfl, hW, npb, hpb, hb1, hb10, hbok, hm0, hm8, q⟩ := h
    refine ⟨_, pss_cons (ps_set (i := 3) scDealing.nd rfl (.inl rfl) (pe_lst pa_nil))
      (pss_cons (ps_for PassesOwn.never rfl (pi_range1 (by rfl) M.range (pa_cons (pe_add pe_int (pe_call G1 hr (by rfl) g1 k1 b1 .nil pass0 (pa_cons (pv 0) (pa_cons (pv 2) pa_nil)))) pa_nil)) (pg_name (i := 4) scDealing.nd rfl (.inl rfl))
        (pss_cons (ps_set (i := 5) scDealing.nd rfl (.inl rfl) (pe_tup (pa_cons (pe_call G2 hr (by rfl) g2 k2 b2 .nil pass0 (pa_cons (pv 0) (pa_cons (pe_lst (pa_cons pe_str (pa_cons pe_str pa_nil))) pa_nil))) (pa_cons (pe_call G2 hr (by rfl) g2 k2 b2 .nil pass0 (pa_cons (pv 0) (pa_cons (pv 1) pa_nil))) pa_nil))))
        (pss_one (ps_if (PW.pt (pw_and (pt_cmpR (op_notInD (hu65 hr)) (pv 5) (pv 3) (by rfl)) (pw_and1 (PW.pt (pw_or (pt_cmpR op_eq (pe_ix ix_tup (pv 5) pe_int (fun _ _ => rfl)) pe_str (nomark _)) (pw_or1 (pt_cmpR (op_notInD (hu65 hr)) (pe_tup (pa_cons pe_str (pa_cons (pe_ix ix_tup (pv 5) pe_int (fun _ _ => rfl)) pa_nil))) (pv 3) (by rfl))))))))
          (pss_one (ps_expr (pe_bm PySem.F.plainAttrs_list PySem.F.slot_list_append PySem.F.type_list_append mt_append (pv 3) (pa_cons (pv 5) pa_nil)))) pss_nil))))
      (pss_one (ps_ret (pe_callTy call_tuple_of (by rfl) M.tuple (by decide +kernel) (pa_cons (pv 3) pa_nil))))), ?_⟩
    refine ⟨Nat.zero_le _, fun o no => ?_⟩
    have nos : o ≠ st := hW.ne no
    refine ⟨.ref st, rfl, .int m, rfl, st, m, rfl, hW.same (same_new no), hm0, by omega, fun r H1 h0 h1 W1 e1 => ⟨1, r, rfl, rfl, 1 + r, rfl, by omega, by omega, ?_⟩⟩
    have ho1 : H1 o = some (.lst []) := e1 _ _ nos upd_same
    have eH1 : ExS st H H1 := (ExS.new no).trans e1
    refine for_range (lo := 0) (n := (1 + r).toNat) (fun i σ H' => ∃ y4 y5 xs l, σ = [some (.ref st), some (.ref pb), some (.int m), some (.ref o), y4, y5] ∧ H' o = some (.lst xs) ∧ TDs st H' xs (List.map stepD l) ∧ l.length ≤ i ∧ (1 ≤ i → 1 ≤ l.length) ∧ StepsOk l ∧ follow mayP l = true ∧ Well st H' ∧ ExS st H H')
      ⟨none, none, [], [], rfl, ho1, .nil, Nat.le_refl _, fun z => absurd z (by decide), (fun p hp => absurd hp List.not_mem_nil), rfl, W1, eH1⟩ (fun i σ H2 hi hP => ?_) (fun σ H2 hP => ?_)
    · obtain ⟨y4, y5, xs, l, rfl, ho, t, hl, hne, hok, hfo, W2, e2⟩ := hP
      refine ⟨.ref st, rfl, by show 2 ≤ sizeLine; decide, fun p np => ?_⟩
      have np_st : p ≠ st := W2.ne np
      have s2 := same_new (o := .lst [.str wR, .str wW]) np
      refine ⟨st, p, [.str wR, .str wW], [.str wR, .str wW], rfl, W2.same s2, np_st, upd_same, .cons (.str _) (.cons (.str _) .nil), by decide, by decide, fun v3 d3 H3 t3 m3 W3 e3 => ?_⟩
      obtain ⟨z, rfl, wz⟩ : ∃ z, v3 = .str z ∧ wordB z = true := by
        simp only [List.mem_cons, List.not_mem_nil, or_false] at m3
        rcases m3 with rfl | rfl
        · cases t3
          exact ⟨wR, rfl, by decide +kernel⟩
        · cases t3
          exact ⟨wW, rfl, by decide +kernel⟩
      have e23 : ExS st H2 H3 := (ExS.of s2).trans e3
      refine ⟨.ref st, rfl, .ref pb, rfl, st, pb, bs.map V.int, bs.map D.int, rfl, W3, npb, e23 _ _ npb (e2 _ _ npb hpb), ints_tds bs, by rw [List.length_map]; exact hb1, by rw [List.length_map]; omega, fun v4 d4 H4 t4 m4 W4 e4 => ?_⟩
      obtain ⟨r4, rfl, hb4⟩ : ∃ b, v4 = .int b ∧ boxB b = true := by
        obtain ⟨b, hb, rfl⟩ := List.mem_map.mp m4
        cases t4
        exact ⟨b, rfl, hbok b hb⟩
      refine ⟨by show 2 ≤ sizeLine; decide, fun p2 np2 => ?_⟩
      have e24 : ExS st H2 H4 := e23.trans e4
      have np2_st : p2 ≠ st := W4.ne np2
      have e25 : ExS st H2 (upd H4 p2 (.tup [.str z, .int r4])) := e24.trans (ExS.new np2)
      have W5 : Well st (upd H4 p2 (.tup [.str z, .int r4])) := W4.same (same_new np2)
      have ho5 := e25 _ _ nos ho
      have t5 := t.mono e25
      have tp : TD st (upd H4 p2 (.tup [.str z, .int r4])) (.ref p2) (stepD (z, r4)) := .tup np2_st upd_same (.cons (.str _) (.cons (.int _) .nil))
      have wl : ∀ q ∈ l, wordB q.1 = true := fun q hq => (hok q hq).1
      have hz : xs.length = l.length := by rw [t.length, List.length_map]
      have grow : ∀ {HX : Hp} {y4 y5 : Option V}, ExS st (upd H4 p2 (.tup [.str z, .int r4])) HX → Well st HX → mayP (z, r4) l = true → ∃ y4' y5' xs' l', [some (V.ref st), some (.ref pb), some (.int m), some (.ref o), y4, y5] = [some (V.ref st), some (.ref pb), some (.int m), some (.ref o), y4', y5'] ∧ (upd HX o (.lst (xs ++ [.ref p2]))) o = some (.lst xs') ∧ TDs st (upd HX o (.lst (xs ++ [.ref p2]))) xs' (List.map stepD l') ∧ l'.length ≤ i + 1 ∧ (1 ≤ i + 1 → 1 ≤ l'.length) ∧ StepsOk l' ∧ follow mayP l' = true ∧ Well st (upd HX o (.lst (xs ++ [.ref p2]))) ∧ ExS st H (upd HX o (.lst (xs ++ [.ref p2]))) := fun {HX y4 y5} eX WX hm => by
        have hoX := eX _ _ nos ho5
        refine ⟨y4, y5, xs ++ [.ref p2], l ++ [(z, r4)], rfl, upd_same, ?_, by rw [List.length_append]; show l.length + 1 ≤ i + 1; omega, fun _ => by rw [List.length_append]; show 1 ≤ l.length + 1; omega, ?_, follow_snoc hfo hm, ?_, ?_⟩
        · have h' : TDs st HX (xs ++ [.ref p2]) ((l ++ [(z, r4)]).map stepD) := by
            rw [List.map_append]
            exact (t5.mono eX).append (.cons (tp.mono eX) .nil)
          refine h'.stepsT fun a ys na ha => ?_
          rw [upd_ne]
          · exact ha
          · intro e
            rw [e, hoX] at ha
            cases ha
        · intro q hq
          rcases List.mem_append.mp hq with h | h
          · exact hok q h
          · rw [List.mem_singleton.mp h]
            exact ⟨wz, hb4⟩
        · obtain ⟨a1, b1, c1, h⟩ := WX
          exact ⟨a1, b1, c1, by rw [upd_ne (Ne.symm nos)]; exact h⟩
        · intro a u na ha
          rw [upd_ne (ne_of_none ha no)]
          exact eX _ _ na (e25 _ _ na (e2 _ _ na ha))
      refine ⟨.ref p2, rfl, .ref o, rfl, stepP (z, r4), l.map stepP, tp.stepDp, .lst (SqL.of ho5) t5.stepsDp, stepP_shaped wz, stepPs_shapedL wl, _, rfl, ?_⟩
      rw [any_step]
      cases h1m : decide ((z, r4) ∈ l) with
      | true =>
        refine iteF (iteF ?_)
        exact ⟨_, _, xs, l, rfl, ho5, t5, by omega, fun _ => List.length_pos_of_mem (of_decide_eq_true h1m), hok, hfo, W5, e2.trans e25⟩
      | false =>
        refine iteT ⟨.ref p2, rfl, p2, [.str z, .int r4], 0, .str z, rfl, rfl, SqT.of upd_same, rfl, rfl, _, rfl, ite2 (fun hw => ?_) (fun hw => ?_)⟩
        · have ez : z = wW := V.str.inj (of_decide_eq_true hw)
          refine iteT ⟨.ref o, rfl, .inl ⟨rfl, _, SqL.of ho5⟩, .ref p2, rfl, o, xs, .ref p2, rfl, rfl, ho5, sl_lt (by omega), grow (ExS.refl _ _) W5 ?_⟩
          unfold mayP
          subst ez
          rw [h1m]
          rfl
        · refine ⟨.ref p2, rfl, p2, [.str z, .int r4], 1, .int r4, rfl, rfl, SqT.of upd_same, rfl, by show 2 ≤ sizeLine; decide, fun c nc => ?_⟩
          have e56 : ExS st (upd H4 p2 (.tup [.str z, .int r4])) (upd (upd H4 p2 (.tup [.str z, .int r4])) c (.tup [.str wW, .int r4])) := ExS.new nc
          have e26 := e25.trans e56
          have W6 := W5.same (same_new (o := .tup [.str wW, .int r4]) nc)
          have ho6 := e26 _ _ nos ho
          have t6 := t.mono e26
          refine ⟨.ref o, rfl, stepP (wW, r4), l.map stepP, .tup (SqT.of upd_same) (.cons (.str _) (.cons (.int _) .nil)), .lst (SqL.of ho6) t6.stepsDp, stepP_shaped (show wordB wW = true by decide +kernel), stepPs_shapedL wl, _, rfl, ?_⟩
          rw [any_step]
          cases h2m : decide ((wW, r4) ∈ l) with
          | true =>
            refine iteF ?_
            exact ⟨_, _, xs, l, rfl, ho6, t6, by omega, fun _ => List.length_pos_of_mem (of_decide_eq_true h2m), hok, hfo, W6, e2.trans e26⟩
          | false =>
            refine iteT ⟨.ref o, rfl, .inl ⟨rfl, _, SqL.of ho6⟩, .ref p2, rfl, o, xs, .ref p2, rfl, rfl, ho6, sl_lt (by omega), grow e56 W6 ?_⟩
            unfold mayP
            rw [h1m, h2m]
            rfl
    · obtain ⟨y4, y5, xs, l, rfl, ho, t, hl, hne, hok, hfo, W2, e2⟩ := hP
      refine ⟨.ref o, rfl, o, xs, rfl, .inl ⟨SqL.of ho, fun p np => q (.ref p) l _ (.tup (W2.ne np) upd_same (t.mono (ExS.new np))) ⟨hok, hne (by omega), by omega, hfo⟩ (W2.same (same_new np)) (e2.trans (ExS.new np))⟩⟩
end
end As

namespace As
open PySem PySem.Spec PyProof.Rows L2
theorem TD.dealT {st : Addr} {H H' : Hp} (e : ∀ a ys, a ≠ st → H a = some (.tup ys) → H' a = some (.tup ys)) {v : V} {l : List Pr} (h : TD st H v (dlD l)) : TD st H' v (dlD l) := by
  cases h with
  | tup n h t => exact .tup n (e _ _ n h) (t.stepsT e)
theorem TDs.dealsT {st : Addr} {H H' : Hp} (e : ∀ a ys, a ≠ st → H a = some (.tup ys) → H' a = some (.tup ys)) : ∀ {ls : List (List Pr)} {vs : List V}, TDs st H vs (ls.map dlD) → TDs st H' vs (ls.map dlD)
  | [], _, h => by
    cases h
    exact .nil
  | l :: ls, _, h => by
    cases h with
    | cons h t => exact .cons (h.dealT e) (t.dealsT e)
theorem free_of {st : Addr} {H H1 : Hp} {p : Addr} (e1 : ExS st H H1) (W1 : Well st H1) (hp : H1 p = none) : H p = none := by
  cases hq : H p with
  | none => rfl
  | some o =>
    by_cases z : p = st
    · exact absurd z (W1.ne hp)
    · rw [e1 p o z hq] at hp
      cases hp
section
variable {P : Program} {w : World} {K : PySem.W.Frag} {mg : Str → Option Value} {base : Heap}
/-! ### dealings -/
def spDealings : Sp := fun vs H Q _ => ∃ (st : Addr) (n : Nat) (m : Int), vs = [.ref st, .int n, .int m] ∧ Well st H ∧ n ≤ 100 ∧ 0 < m ∧ m ≤ 8 ∧
  ∀ p ls H', TD st H' (.ref p) (dsD ls) → ls.length = n → (∀ l ∈ ls, okD l) → H p = none → Well st H' → ExS st H H' → Q (.ref p) H'
theorem ok_dealings {f f1 f2 : Addr} {fd fd1 fd2 : FuncData} {k : Nat} (F : Fun K "_law_dealings" "_law_dealings" sDealings f fd) (M : Mg mg) (G1 : FnOk P w K mg base CX0 k f1 fd1 ["_law_well_here"] spBoxes) (g1 : mg "_law_boxes" = some (.ref f1)) (k1 : PySem.W.keepIn K (.ref f1) = true) (b1 : Binds K fd1 ["_law_well_here"] [])
    (G2 : FnOk P w K mg base CX0 k f2 fd2 ["_law_well_here", "_law_boxes_here", "_law_most"] spDealing) (g2 : mg "_law_dealing" = some (.ref f2)) (k2 : PySem.W.keepIn K (.ref f2) = true) (b2 : Binds K fd2 ["_law_well_here", "_law_boxes_here", "_law_most"] []) :
    FnOk P w K mg base CX0 (k + 1) f fd ["_law_well_here", "_law_many", "_law_most"] spDealings := by
  refine F.ok scDealings (fun vs H Q E h => ?_) (fun cdv A outer s H vs Q E hr h => ?_)
  · obtain ⟨st, n, m, rfl, _⟩ := h
    rfl
  · obtain ⟨st, n, m, rfl, hW, hn, hm0, hm8, q⟩ := h
    refine ⟨_, pss_cons (ps_set (i := 3) scDealings.nd rfl (.inr rfl) (pe_call G1 hr (by rfl) g1 k1 b1 .nil pass0 (pa_cons (pv 0) pa_nil)))
      (pss_one (ps_ret (pe_lc (own := [("_law_k", 4)]) (g := gName 4) (by rfl) scDealings.nd (pi_range1 (by rfl) M.range (pa_cons (pv 1) pa_nil)) (blkOk_by (own := [("_law_k", 4)]) (N := ["_law_well_here", "_law_many", "_law_most", "_law_boxes_here", "_law_k"]) (sc := defScope sDealings) (by decide +kernel))
        (fun _ _ _ _ _ => pg_name (i := 4) scDealings.nd rfl (Or.inl rfl)) (fun _ _ _ _ _ => pts_nil) (fun _ _ _ _ _ => pe_call G2 hr (by rfl) g2 k2 b2 .nil pass0 (pa_cons (pv 0) (pa_cons (pv 3) (pa_cons (pv 2) pa_nil))))))), ?_⟩
    refine ⟨.ref st, rfl, st, rfl, hW, fun pb bs H1 hb1 hb10 hbok npb npbH hpb W1 e1 => ?_⟩
    refine ⟨.int n, rfl, n, rfl, by omega, by omega, fun D1 nD => ?_⟩
    have nDst : D1 ≠ st := W1.ne nD
    have nDb : D1 ≠ pb := (ne_of_none hpb nD).symm
    rw [Int.toNat_natCast]
    refine lc_it (walk_range (lo := 0) (n := n)) (fun i H' => ∃ xs ls, H' D1 = some (.lst xs) ∧ TDs st H' xs (List.map dlD ls) ∧ ls.length = i ∧ (∀ l ∈ ls, okD l) ∧ H' pb = some (.lst (bs.map V.int)) ∧ Well st H' ∧ ExS st H H') ⟨[], [], upd_same, .nil, rfl, (fun l hl => absurd hl List.not_mem_nil), same_new nD _ _ hpb, W1.same (same_new nD), e1.trans (ExS.new nD)⟩ (fun _ _ _ _ => trivial) (fun i y H4 H5 hi hP hy => ?_) (fun H4 hP => ?_)
    · obtain ⟨xs, ls, hD, t, hl, hok, hb, W4, e4⟩ := hP
      obtain ⟨rfl, rfl⟩ := hy
      refine ⟨rfl, yesI ⟨.ref st, rfl, .ref pb, rfl, .int m, rfl, st, pb, bs, m, rfl, W4, npb, hb, hb1, hb10, hbok, hm0, hm8, fun v l H6 tv okl W6 e6 => ?_⟩⟩
      have hD6 := e6 _ _ nDst hD
      have hz : xs.length = ls.length := by rw [t.length, List.length_map]
      refine ⟨xs, hD6, sl_lt (by omega), xs ++ [v], ls ++ [l], upd_same, ?_, by rw [List.length_append]; show ls.length + 1 = i + 1; omega, ?_, ?_, ?_, ?_⟩
      · have h' : TDs st H6 (xs ++ [v]) ((ls ++ [l]).map dlD) := by
          rw [List.map_append]
          exact (t.mono e6).append (.cons tv .nil)
        refine h'.dealsT fun a ys na ha => ?_
        rw [upd_ne]
        · exact ha
        · intro e
          rw [e, hD6] at ha
          cases ha
      · intro q hq
        rcases List.mem_append.mp hq with h | h
        · exact hok q h
        · rw [List.mem_singleton.mp h]
          exact okl
      · rw [upd_ne (Ne.symm nDb)]
        exact e6 _ _ npb hb
      · obtain ⟨a1, b1, c1, h⟩ := W6
        exact ⟨a1, b1, c1, by rw [upd_ne (Ne.symm nDst)]; exact h⟩
      · intro a u na ha
        have nDH : H D1 = none := free_of e1 W1 nD
        rw [upd_ne (ne_of_none ha nDH)]
        exact e6 _ _ na (e4 _ _ na ha)
    · obtain ⟨xs, ls, hD, t, hl, hok, hb, W4, e4⟩ := hP
      exact q D1 ls H4 (.lst nDst hD t) hl hok (free_of e1 W1 nD) W4 e4
theorem erase_perm : ∀ {l : List Int} {i : Nat} (h : i < l.length), (l[i] :: l.eraseIdx i).Perm l
  | [], _, h => absurd h (Nat.not_lt_zero _)
  | _ :: _, 0, _ => .refl _
  | a :: l, i + 1, h => (List.Perm.swap a (l[i]'(Nat.lt_of_succ_lt_succ h)) _).trans ((erase_perm (Nat.lt_of_succ_lt_succ h)).cons a)
theorem eraseV : ∀ (l : List Int) (i : Nat), (l.map V.int).eraseIdx i = (l.eraseIdx i).map V.int
  | [], _ => rfl
  | _ :: _, 0 => rfl
  | a :: l, i + 1 => congrArg (V.int a :: ·) (eraseV l i)
theorem rg_rng (n : Nat) : rgV 0 (n : Nat) = (rng n).map V.int := by
  unfold rgV rng
  rw [List.map_map, show (((n : Nat) : Int) - 0).toNat = n by omega]
  refine List.map_congr_left fun i _ => ?_
  show V.int (0 + (i : Nat)) = V.int (i : Nat)
  rw [Int.zero_add]
end
end As

namespace As
open PySem PySem.Spec PyProof.Rows L2
/-! ### list.count of truths -/
theorem vals_bools : ∀ {bs : List Bool} {its : List Value}, Vals (bs.map V.bl) its → its = bs.map Value.bool
  | [], _, h => by
    cases h
    rfl
  | b :: bs, _, h => by
    cases h with
    | cons r t =>
      have e := vals_bools t
      subst e
      cases r
      rfl
def eqb (k : Bool) : Value → Bool
  | .bool b => b == k
  | _ => false
def rCntB (K : PySem.W.Frag) : V → List V → Hp → VK → Prop := fun x xs H Q => ∃ (p : Addr) (bs : List Bool) (k : Bool), x = .ref p ∧ xs = [.bl k] ∧ SqL K H p (bs.map V.bl) ∧ Q (.int ((bs.count k : Nat) : Int)) H
theorem mt_lcountB {X : Cx} : MtR X "list.count" (rCntB X.K) := by
  intro pins s σ H x xs v us Q I rx rxs h
  obtain ⟨p, bs, k, rfl, rfl, hs, q⟩ := h
  cases rx
  obtain ⟨u, rfl, ru⟩ := rxs.one
  cases ru
  obtain ⟨its, rv, ⟨⟨cls, dd, data, sl⟩, n, ho, hc, hdn, hd⟩, hlen⟩ := I.list hs
  simp only at hc hd
  subst hc hd
  have hi := vals_bools rv
  subst hi
  refine call_meets PySem.F.slot_list_count ⟨_, ho, rfl⟩ PySem.F.entry_list_count (PySem.F.args_list_count_2 _ _)
    (SeqAt.list_countAt p (bs.map Value.bool).toArray n dd sl (.bool k) (eqb k)) ⟨ho, fun y hy => ?_, ?_⟩
  · have hy' : y ∈ bs.map Value.bool := by simpa using hy
    obtain ⟨b, _, rfl⟩ := List.mem_map.mp hy'
    exact eqAt_V (y := .bl b) (x := .bl k) rfl rfl rfl rfl
  · have ec : (bs.map Value.bool).toArray.toList.countP (eqb k) = bs.count k := by
      show (bs.map Value.bool).countP (eqb k) = bs.count k
      rw [List.countP_map]
      rfl
    refine ⟨.int ((bs.count k : Nat) : Int), H, I.tok _, ⟨s.toks, ?_⟩, q⟩
    rw [ec]
/-! ### told -/
abbrev sTold : Stmt := topS 31
abbrev nTold : List Str := ["_law_ask", "_law_e", "_law_marks"]
theorem scTold : FnScope nTold ["_law_ask"] (defScope sTold) := ⟨rfl, rfl, rfl, by decide +kernel, rfl, by decide +kernel, by decide +kernel⟩
/-- the classes of errors as told asks them -/
structure Tl (K : PySem.W.Frag) (mg : Str → Option Value) (CA CS CW CO CN : Addr) : Prop where
  gA : mg "AloneError" = some (.ref CA)
  gS : mg "NoDealings" = some (.ref CS)
  gW : mg "NoWeaving" = some (.ref CW)
  gO : mg "NoOrder" = some (.ref CO)
  gN : mg "NoNumber" = some (.ref CN)
  vE : mg "ValueError" = none
/-- an error's class beside the others -/
structure Ki (K : PySem.W.Frag) (C CA CS CW CO CN : Addr) (bS bO : Bool) : Prop where
  eA : PySem.W.exmOne K (.ref C) (.ref CA) = some true
  eC : ExcC K C
  iS : PySem.W.kitOne K (.ref C) (.ref CS) = some bS
  iW : PySem.W.kitOne K (.ref C) (.ref CW) = some false
  iO : PySem.W.kitOne K (.ref C) (.ref CO) = some bO
  iN : PySem.W.kitOne K (.ref C) (.ref CN) = some false
  iV : PySem.W.kitOne K (.ref C) (.type "ValueError") = some true
def pDue (z : Str) (H : Hp) (Q : VK) : Prop := ∀ p H', H p = none → Same H H' → H' p = some (.tup [.str z, .non]) → Q (.ref p) H'
def ErrK (CS CO : Addr) (Q : VK) : XK := fun cls d H' => d = none ∧ (cls = .ref CS ∧ pDue "dealings" H' Q ∨ cls = .ref CO ∧ pDue "order" H' Q)
/-- what the asker of a lambda makes of it -/
def TTo (CS CO : Addr) : (XK → Hp → VK → Prop) → Hp → VK → Prop := fun tl H Q => tl (ErrK CS CO Q) H (fun v H1 => [V.str "told", v].length ≤ sizeLine ∧ ∀ p, H1 p = none → Q (.ref p) (upd H1 p (.tup [.str "told", v])))
theorem told_gives12 {X : Cx} {CA CS CW CO CN : Addr} (T : Tl X.K X.mg CA CS CW CO CN) (KS : Ki X.K CS CA CS CW CO CN true false) (KO : Ki X.K CO CA CS CW CO CN false true) (M : Mg X.mg) {g : Addr} {cdg : Value} {q : Str} :
    LamX.GivesTo X nTold "_law_told" (defScope sTold) g cdg (defBody sTold) "_law_ask" q (TTo CS CO) := by
  intro f c' s H Q tl act hc h
  refine ⟨_, pss_one (ps_try_as (i := 1) (c := .ref CA)
      (tb := fun W D σ H => ∃ Ech : XK, (∀ cls d σ' H', Ech cls d H' → W cls d σ' H') ∧ σ[0]? = some (some (.ref f)) ∧ H c' = some (LamX.CodeO c' q) ∧ tl Ech H (fun v H1 => [V.str "told", v].length ≤ sizeLine ∧ ∀ p, H1 p = none → D.rt (.ref p) (upd H1 p (.tup [.str "told", v]))))
      (ts := fun a cls d D σ H => ErrK CS CO D.rt cls d H ∧ (σ.length = 3 → σ[1]? = some (some (.ref a))))
      rfl rfl scTold.nd rfl rfl ⟨by rfl, by decide, .inl T.gA⟩ LamX.takes0 (fun W pn xe tk _ => ?_) (fun a oe cls d pn hz hf => ?_)), ?_⟩
  · refine ⟨fun pins s' σ H' D I h' => ?_⟩
    obtain ⟨Ech, hW, h1, h2, h3⟩ := h'
    exact (pss_one (ps_ret (pe_tup (pa_cons pe_str (pa_cons (act W pn xe Ech _ _ tk hW) pa_nil))))).run pins s' σ H' D I ⟨h1, h2, h3⟩
  · refine ⟨fun pins s' σ H' D I h' => ?_⟩
    obtain ⟨h1, h2⟩ := h'
    have hlen : σ.length = 3 := I.len
    have hs1 := h2 hlen
    obtain ⟨C, bS, bO, z, KI, hz, hcnt, hj, hd⟩ : ∃ (C : Addr) (bS bO : Bool) (z : Str), Ki X.K C CA CS CW CO CN bS bO ∧ Zc (.ref C) none oe ∧ [bS, false, bO, false].count true = 1 ∧ (∃ j : Nat, [V.bl bS, V.bl false, V.bl bO, V.bl false][j]? = some (.bl true) ∧ (∀ (m : Nat) (z' : V), m < j → [V.bl bS, V.bl false, V.bl bO, V.bl false][m]? = some z' → eqV z' (.bl true) = false) ∧ [V.str "dealings", V.str "", V.str "order", V.str "number"][j]? = some (.str z)) ∧ pDue z H' D.rt := by
      obtain ⟨rfl, h1 | h1⟩ := h1
      · obtain ⟨rfl, hd⟩ := h1
        exact ⟨CS, true, false, _, KS, hz, rfl, ⟨0, rfl, fun m z' hm _ => absurd hm (Nat.not_lt_zero _), rfl⟩, hd⟩
      · obtain ⟨rfl, hd⟩ := h1
        refine ⟨CO, false, true, _, KO, hz, rfl, ⟨2, rfl, fun m z' hm hz => ?_, rfl⟩, hd⟩
        match m, hm, hz with
        | 0, _, hz => cases hz; rfl
        | 1, _, hz => cases hz; rfl
    have isE := call_isE (X := (cxOf C8.CX0 X.prog X.w X.K X.mg X.base nTold "_law_told" (defScope sTold) g cdg X.A X.stack s H C8.E0).nox) (a := a) (pn := pn) (D := C) KI.eC hz hf
    refine (pss_cons (ps_set (i := 2) scTold.nd rfl (.inl rfl) (pe_lst (pa_cons (pe_callB isE (by rfl) M.isinstance (by decide +kernel) (pa_cons (pv 1) (pa_cons (pe_glob (v := .ref CS) (by rfl) T.gS rfl) pa_nil)))
        (pa_cons (pe_callB isE (by rfl) M.isinstance (by decide +kernel) (pa_cons (pv 1) (pa_cons (pe_glob (v := .ref CW) (by rfl) T.gW rfl) pa_nil)))
        (pa_cons (pe_callB isE (by rfl) M.isinstance (by decide +kernel) (pa_cons (pv 1) (pa_cons (pe_glob (v := .ref CO) (by rfl) T.gO rfl) pa_nil)))
        (pa_cons (pe_callB isE (by rfl) M.isinstance (by decide +kernel) (pa_cons (pv 1) (pa_cons (pe_glob (v := .ref CN) (by rfl) T.gN rfl) pa_nil))) pa_nil))))))
      (pss_cons (ps_if (PW.pt (pw_or (pt_cmpR op_ne (pe_bm PySem.F.plainAttrs_list PySem.F.slot_list_count PySem.F.type_list_count mt_lcountB (pv 2) (pa_cons pe_bl pa_nil)) pe_int (nomark _))
          (pw_or1 (pt_not (pt_val (pe_callB isE (by rfl) M.isinstance (by decide +kernel) (pa_cons (pv 1) (pa_cons (pe_bltn (v := .ty "ValueError") (by rfl) T.vE (by decide +kernel) rfl) pa_nil)))))))) pss_never pss_nil)
      (pss_cons (ps_if (pt_val (pe_ix ix_list (pv 2) pe_int (fun _ _ => rfl))) pss_never pss_nil)
      (pss_one (ps_ret (pe_tup (pa_cons (pe_ix ix_list (pe_lst (pa_cons pe_str (pa_cons pe_str (pa_cons pe_str (pa_cons pe_str pa_nil))))) (pe_bm PySem.F.plainAttrs_list PySem.F.slot_list_index PySem.F.type_list_index mt_index (pv 2) (pa_cons pe_bl pa_nil)) (fun _ _ => rfl)) (pa_cons pe_non pa_nil)))))))).run pins s' σ H' D I ?_
    match σ, hlen, hs1 with
    | [x0, x1, x2], _, hs1 =>
    have hs1' : x1 = some (.ref a) := Option.some.inj hs1
    subst hs1'
    refine ⟨.ref a, rfl, .ref CS, .ref CS, bS, rfl, fun u r => r, KI.iS, .ref a, rfl, .ref CW, .ref CW, false, rfl, fun u r => r, KI.iW, .ref a, rfl, .ref CO, .ref CO, bO, rfl, fun u r => r, KI.iO, .ref a, rfl, .ref CN, .ref CN, false, rfl, fun u r => r, KI.iN, by show 4 ≤ sizeLine; decide, fun pm npm => ?_⟩
    have sM : SqL X.K (upd H' pm (.lst [.bl bS, .bl false, .bl bO, .bl false])) pm ([bS, false, bO, false].map V.bl) := SqL.of upd_same
    refine ⟨.ref pm, rfl, .inl ⟨rfl, _, sM⟩, pm, _, true, rfl, rfl, sM, rfl, _, rfl, ?_⟩
    rw [hcnt]
    refine iteF ⟨.ref a, rfl, .ty "ValueError", .type "ValueError", true, rfl, fun u r => r, KI.iV, _, rfl, iteF ?_⟩
    refine ⟨.ref pm, rfl, pm, _, 1, .bl false, rfl, rfl, sM, rfl, _, rfl, iteF ?_⟩
    refine ⟨by show 4 ≤ sizeLine; decide, fun pw npw => ?_⟩
    obtain ⟨j, hj1, hj2, hj3⟩ := hj
    have s2 := same_new (o := .lst [.str "dealings", .str "", .str "order", .str "number"]) npw
    refine ⟨.ref pm, rfl, .inl ⟨rfl, _, SqL.of (s2 _ _ upd_same)⟩, pm, _, .bl true, j, .bl true, rfl, rfl, SqL.of (s2 _ _ upd_same), rfl, rfl, hj1, rfl, hj2, ?_⟩
    refine ⟨pw, _, j, .str z, rfl, rfl, SqL.of upd_same, atI_nat hj3, by show 2 ≤ sizeLine; decide, fun pt npt => ?_⟩
    have s12 : Same H' _ := Same.trans (same_new (o := .lst [.bl bS, .bl false, .bl bO, .bl false]) npm) s2
    exact hd pt _ (Same.free s12 npt) (Same.new s12 npt) upd_same
  · refine ⟨ErrK CS CO Q, fun cls d σ' H' hE => ?_, rfl, hc, h⟩
    have hb : PySem.W.exmOne X.K cls (.ref CA) = some true := by
      obtain ⟨rfl, h1 | h1⟩ := hE
      · rw [h1.1]; exact KS.eA
      · rw [h1.1]; exact KO.eA
    refine ⟨true, hb, fun _ a na => ⟨hE, fun hl => ?_⟩, fun z => absurd z.symm Bool.false_ne_true⟩
    rw [List.length_set] at hl
    exact List.getElem?_set_self (by omega)
end As

namespace As
open PySem PySem.Spec PyProof.Rows L2
/-! ### data that keep away from two places -/
mutual
theorem TD.both {o st : Addr} {H H' : Hp} (e : ExS o H H') : ∀ {v : V} {d : D}, TD o H v d → TD st H v d → TD st H' v d
  | _, _, .non, _ => .non
  | _, _, .bl b, _ => .bl b
  | _, _, .int i, _ => .int i
  | _, _, .str z, _ => .str z
  | _, _, .tup n h t, .tup n2 h2 t2 => .tup n2 (e _ _ n h2) (TDs.both e (by rw [h] at h2; cases h2; exact t) t2)
  | _, _, .lst n h t, .lst n2 h2 t2 => .lst n2 (e _ _ n h2) (TDs.both e (by rw [h] at h2; cases h2; exact t) t2)
  | _, _, .dct n h, .dct n2 h2 => .dct n2 (e _ _ n h2)
theorem TDs.both {o st : Addr} {H H' : Hp} (e : ExS o H H') : ∀ {vs : List V} {ds : List D}, TDs o H vs ds → TDs st H vs ds → TDs st H' vs ds
  | _, _, .nil, _ => .nil
  | _, _, .cons h t, .cons h2 t2 => .cons (TD.both e h h2) (TDs.both e t t2)
end
theorem rng_nodup (n : Nat) : (rng n).Nodup := by
  unfold rng List.Nodup
  rw [List.pairwise_map]
  exact List.pairwise_lt_range.imp fun h => by omega
theorem ints_inj : ∀ {a b : List Int}, a.map D.int = b.map D.int → a = b
  | [], [], _ => rfl
  | [], _ :: _, h => by cases h
  | _ :: _, [], h => by cases h
  | x :: a, y :: b, h => by
    rw [List.map_cons, List.map_cons] at h
    have h1 := List.cons.inj h
    rw [ints_inj h1.2, D.int.inj h1.1]
theorem cut_from (xs : List V) (j : Nat) (h : j < xs.length) : cutV xs (some ((j : Int) + 1)) none = xs.drop (j + 1) := by
  show cutV xs (some ((j + 1 : Nat) : Int)) none = _
  unfold cutV
  rw [HT.sIx_none, HT.sIx_nat, Nat.min_eq_left (by omega), List.take_of_length_le (by rw [List.length_drop]; omega)]
theorem noPart {σ : L2.St} {H : Hp} {R : Option Int → Hp → Prop} (h : R none H) : tNoPart σ H R := h
/-- the place ahead, round -/
theorem at_ahead {xs : List V} {j : Nat} (h : j < xs.length) : ∃ i, i < xs.length ∧ (1 < xs.length → i ≠ j) ∧ atI xs ((j : Int) - 1) = xs[i]? := by
  by_cases z : j = 0
  · subst z
    refine ⟨xs.length - 1, by omega, by omega, ?_⟩
    unfold atI ixN
    rw [if_neg (by omega), if_pos (by omega)]
    show xs[_]? = _
    congr 1
    omega
  · refine ⟨j - 1, by omega, by omega, ?_⟩
    unfold atI ixN
    rw [if_pos (by omega), if_pos (by omega)]
    show xs[_]? = _
    congr 1
    omega
end As

namespace As
open PySem PySem.Spec PyProof.Rows L2
/-! ### a state between -/
theorem ps_mid {X : Cx} {st : Stmt} {t : TS} (h : PS X st t) : PS X st (fun D σ H => ∃ J : L2.St → Hp → Prop, t { D with nx := J } σ H ∧ ∀ σ' H', J σ' H' → D.nx σ' H') := by
  refine ⟨fun pins s σ H D I h' => ?_⟩
  obtain ⟨J, h1, h2⟩ := h'
  refine wpAny_mono (h.run pins s σ H _ I h1) (fun f s' hs => ?_) fun _ _ x => x
  cases f with
  | next =>
    obtain ⟨σ', H', I', q⟩ := hs
    exact ⟨σ', H', I', h2 _ _ q⟩
  | brk => exact hs
  | cont => exact hs
  | ret u => exact hs
/-! ### heaps, but for the well and for the tables of code objects -/
def ExM (st : Addr) (H H' : Hp) : Prop := ∀ b o, b ≠ st → (∀ ps, o ≠ HO.tbl ps) → H b = some o → H' b = some o
theorem ExM.trans {st : Addr} {H H1 H2 : Hp} (a : ExM st H H1) (b : ExM st H1 H2) : ExM st H H2 := fun x o n z h => b x o n z (a x o n z h)
theorem ExM.ofS {st : Addr} {H H' : Hp} (e : ExS st H H') : ExM st H H' := fun b o n _ h => e b o n h
theorem ExM.ofN {st : Addr} {H H' : Hp} (e : LamX.ExtN H H') : ExM st H H' := fun b o _ z h => e b o h z
theorem ExM.same {st : Addr} {H H' : Hp} (e : Same H H') : ExM st H H' := fun b o _ _ h => e b o h
theorem ExM.lst {st a : Addr} {H H' : Hp} {xs : List V} (e : ExM st H H') (n : a ≠ st) (h : H a = some (.lst xs)) : H' a = some (.lst xs) := e _ _ n (fun _ z => nomatch z) h
theorem TD.monoM {st : Addr} {H H' : Hp} (e : ExM st H H') {v : V} {d : D} (h : TD st H v d) : TD st H' v d := by
  refine TD.rec (motive_1 := fun v d _ => TD st H' v d) (motive_2 := fun vs ds _ => TDs st H' vs ds) ?_ ?_ ?_ ?_ ?_ ?_ ?_ ?_ ?_ h
  · exact .non
  · exact fun b => .bl b
  · exact fun i => .int i
  · exact fun z => .str z
  · intro a xs ds n h _ t
    have z : ∀ ps, HO.tup xs ≠ HO.tbl ps := fun _ z => nomatch z
    exact TD.tup n (e _ _ n z h) t
  · intro a xs ds n h _ t
    have z : ∀ ps, HO.lst xs ≠ HO.tbl ps := fun _ z => nomatch z
    exact TD.lst n (e _ _ n z h) t
  · intro a n h
    have z : ∀ ps, HO.dK [] ≠ HO.tbl ps := fun _ z => nomatch z
    exact TD.dct n (e _ _ n z h)
  · exact .nil
  · exact fun _ _ h t => .cons h t
theorem Well.monoN {st : Addr} {H H' : Hp} (e : LamX.ExtN H H') (h : Well st H) : Well st H' := by
  obtain ⟨a, b, c, h⟩ := h
  exact ⟨a, b, c, e _ _ h fun _ z => nomatch z⟩
theorem tabs_well {T : List (Addr × Str)} {H H' : Hp} {st : Addr} (W : Well st H) (e : ExS st H H') (t : LamX.Tabs T H) : LamX.Tabs T H' := fun q hq => by
  obtain ⟨ps, h1, h2, h3⟩ := t q hq
  have keep : ∀ b o, H b = some o → (∀ zs, o ≠ .lst zs) → H' b = some o := fun b o hb n => e b o (fun z => by
    obtain ⟨a, b', c, h⟩ := W
    rw [z, h] at hb
    exact n _ (Option.some.inj hb).symm) hb
  refine ⟨ps, keep _ _ h1 fun _ z => (nomatch z), h2, fun pos cv hc => ?_⟩
  obtain ⟨c, e1, e2⟩ := h3 pos cv hc
  exact ⟨c, e1, keep _ _ e2 fun zs z => by
    unfold LamX.CodeO at z
    cases z⟩
/-! ### dealings as data of any depth -/
def dealP (l : List Pr) : PyData := .tuple (l.map stepP)
theorem dealPs_lay : ∀ {ls : List (List Pr)}, (∀ l ∈ ls, okD l) → PyData.canLayAll0 (ls.map dealP) = true
  | [], _ => by simp [PyData.canLayAll0]
  | l :: ls, h => by
    have h1 := stepPs_lay fun p hp => ((h l (List.mem_cons_self ..)).1 p hp).1
    have h2 := dealPs_lay fun q hq => h q (List.mem_cons_of_mem _ hq)
    simp [PyData.canLayAll0, PyData.canLay0, dealP, h1, h2]
theorem dealPs_depth : ∀ ls : List (List Pr), PyData.depthAll (ls.map dealP) ≤ 2
  | [] => by simp [PyData.depthAll]
  | l :: ls => by
    have h1 := dealPs_depth ls
    have h2 := stepPs_depth l
    simp only [List.map_cons, PyData.depthAll, dealP, PyData.depth] at h1 ⊢
    omega
theorem TDs.dealsDp {K : PySem.W.Frag} {st : Addr} {H : Hp} : ∀ {ls : List (List Pr)} {vs : List V}, TDs st H vs (ls.map dlD) → DpAll K H vs (ls.map dealP)
  | [], _, h => by
    cases h
    exact .nil
  | l :: ls, _, h => by
    cases h with
    | cons h t =>
      refine .cons ?_ t.dealsDp
      cases h with
      | tup n h t => exact .tup (SqT.of h) t.stepsDp
def keptP (ls : List (List Pr)) (ns : List Int) : PyData := .list [.list (ls.map dealP), .list (ns.map PyData.int)]
theorem kept_lay {ls : List (List Pr)} {ns : List Int} (h : ∀ l ∈ ls, okD l) : (keptP ls ns).canLay0 = true := by
  simp [keptP, PyData.canLay0, PyData.canLayAll0, dealPs_lay h, lay_ints]
theorem kept_shaped {ls : List (List Pr)} {ns : List Int} (h : ∀ l ∈ ls, okD l) : SeqAt.shaped (keptP ls ns) = true := by
  show ((keptP ls ns).canLay0 && decide ((keptP ls ns).depth ≤ 64)) = true
  rw [Bool.and_eq_true]
  refine ⟨kept_lay h, decide_eq_true ?_⟩
  have h1 := dealPs_depth ls
  have h2 := depth_ints ns
  simp only [keptP, PyData.depth, PyData.depthAll]
  omega
theorem steps_inj : ∀ {l m : List Pr}, l.map stepD = m.map stepD → l = m
  | [], [], _ => rfl
  | [], _ :: _, h => by cases h
  | _ :: _, [], h => by cases h
  | p :: l, q :: m, h => by
    have h1 : stepD p = stepD q := (List.cons.inj h).1
    have h2 := steps_inj (List.cons.inj h).2
    unfold stepD at h1
    have h3 := D.tup.inj h1
    have h4 : p.1 = q.1 := D.str.inj (List.cons.inj h3).1
    have h5 : p.2 = q.2 := D.int.inj (List.cons.inj (List.cons.inj h3).2).1
    rw [h2, show p = q from Prod.ext h4 h5]
theorem deals_inj : ∀ {l m : List (List Pr)}, l.map dlD = m.map dlD → l = m
  | [], [], _ => rfl
  | [], _ :: _, h => by cases h
  | _ :: _, [], h => by cases h
  | p :: l, q :: m, h => by
    have h1 : dlD p = dlD q := (List.cons.inj h).1
    have h2 := deals_inj (List.cons.inj h).2
    rw [h2, steps_inj (D.tup.inj h1)]
theorem dsD_inj {l m : List (List Pr)} (h : dsD l = dsD m) : l = m := deals_inj (D.lst.inj h)
theorem noDeals {ds : List D} {d : D} (hd : d ∈ ds) (h : isDealing d = false) : areDealings (.lst ds) = false := by
  have e : ds.all isDealing = false := by
    rw [List.all_eq_false]
    exact ⟨d, hd, by rw [h]; exact Bool.false_ne_true⟩
  rw [areDealings_eq, e, Bool.and_false]
/-- a def as its callers need it -/
structure Ok (P : Program) (w : World) (K : PySem.W.Frag) (mg : Str → Option Value) (base : Heap) (CX : CXT) (k : Nat) (x : Str) (ps : List Str) (sp : Sp) : Prop where
  ex : ∃ f fd, FnOk P w K mg base CX k f fd ps sp ∧ mg x = some (.ref f) ∧ PySem.W.keepIn K (.ref f) = true ∧ Binds K fd ps []
end As

namespace As
/-! ### products, ways to choose, rows of turns: Nat alone -/
def fct : Nat → Nat
  | 0 => 1
  | n + 1 => (n + 1) * fct n
theorem fct_pos : ∀ n, 0 < fct n
  | 0 => Nat.one_pos
  | n + 1 => Nat.mul_pos (Nat.succ_pos n) (fct_pos n)
/-- ways to choose k of s + k places: by the last place -/
def tri : Nat → Nat → Nat
  | _, 0 => 1
  | 0, _ + 1 => 1
  | s + 1, k + 1 => tri s (k + 1) + tri (s + 1) k
theorem tri_zero (s : Nat) : tri s 0 = 1 := by
  cases s <;> simp [tri]
theorem tri_none (k : Nat) : tri 0 k = 1 := by
  cases k <;> simp [tri]
theorem tri_more (s k : Nat) : tri (s + 1) (k + 1) = tri s (k + 1) + tri (s + 1) k := by simp [tri]
theorem tri_fct : ∀ n s k, s + k = n → tri s k * (fct s * fct k) = fct (s + k) := by
  intro n
  induction n with
  | zero =>
    intro s k h
    obtain ⟨rfl, rfl⟩ : s = 0 ∧ k = 0 := by omega
    rw [tri_zero]
    rfl
  | succ n ih =>
    intro s k h
    cases s with
    | zero =>
      rw [tri_none, Nat.zero_add]
      show 1 * (1 * fct k) = fct k
      omega
    | succ s =>
      cases k with
      | zero =>
        rw [tri_zero]
        show 1 * (fct (s + 1) * 1) = fct (s + 1)
        omega
      | succ k =>
        have h1 := ih s (k + 1) (by omega)
        have h2 := ih (s + 1) k (by omega)
        rw [tri_more]
        have e : s + 1 + (k + 1) = (s + (k + 1)) + 1 := by omega
        have e2 : s + 1 + k = s + (k + 1) := by omega
        rw [e2] at h2
        rw [e, Nat.add_mul]
        have a1 : tri s (k + 1) * (fct (s + 1) * fct (k + 1)) = (s + 1) * fct (s + (k + 1)) := by
          rw [← h1]
          show tri s (k + 1) * ((s + 1) * fct s * fct (k + 1)) = _
          ac_rfl
        have a2 : tri (s + 1) k * (fct (s + 1) * fct (k + 1)) = (k + 1) * fct (s + (k + 1)) := by
          rw [← h2]
          show tri (s + 1) k * (fct (s + 1) * ((k + 1) * fct k)) = _
          ac_rfl
        rw [a1, a2, ← Nat.add_mul]
        show (s + 1 + (k + 1)) * fct (s + (k + 1)) = (s + (k + 1) + 1) * fct (s + (k + 1))
        rw [e]
/-- one place more: exact -/
theorem tri_next (s k : Nat) : tri s k * (s + k + 1) = tri s (k + 1) * (k + 1) := by
  have h1 := tri_fct _ s k rfl
  have h2 := tri_fct _ s (k + 1) rfl
  have hp : 0 < fct s * fct k := Nat.mul_pos (fct_pos s) (fct_pos k)
  refine Nat.eq_of_mul_eq_mul_right hp ?_
  have e : tri s k * (s + k + 1) * (fct s * fct k) = (s + k + 1) * fct (s + k) := by
    rw [← h1]
    ac_rfl
  have e2 : tri s (k + 1) * (k + 1) * (fct s * fct k) = fct (s + (k + 1)) := by
    rw [← h2]
    show _ = tri s (k + 1) * (fct s * ((k + 1) * fct k))
    ac_rfl
  rw [e, e2]
  rfl
theorem tri_div (t s k : Nat) : t * tri s k * (s + k + 1) / (k + 1) = t * tri s (k + 1) := by
  rw [Nat.mul_assoc, tri_next, ← Nat.mul_assoc]
  exact Nat.mul_div_cancel _ (Nat.succ_pos k)
/-- the rows of these turns, s places ahead -/
def rows : Nat → List Nat → Nat
  | _, [] => 1
  | s, t :: ts => tri s t * rows (s + t) ts
def prods : List Nat → Nat
  | [] => 1
  | t :: ts => fct t * prods ts
theorem prods_pos : ∀ ts, 0 < prods ts
  | [] => Nat.one_pos
  | t :: ts => Nat.mul_pos (fct_pos t) (prods_pos ts)
theorem rows_fct : ∀ (ts : List Nat) (s : Nat), rows s ts * (fct s * prods ts) = fct (s + ts.sum)
  | [], s => by
    show 1 * (fct s * 1) = fct (s + 0)
    rw [Nat.add_zero]
    omega
  | t :: ts, s => by
    have ih := rows_fct ts (s + t)
    have h := tri_fct _ s t rfl
    rw [List.sum_cons, ← Nat.add_assoc, ← ih, ← h]
    show tri s t * rows (s + t) ts * (fct s * (fct t * prods ts)) = _
    ac_rfl
/-- all turns together decide -/
theorem rows_of {ts : List Nat} {m : Nat} (h : m * prods ts = fct ts.sum) : m = rows 0 ts := by
  have h0 := rows_fct ts 0
  rw [Nat.zero_add] at h0
  refine Nat.eq_of_mul_eq_mul_right (prods_pos ts) (h.trans ?_)
  rw [← h0]
  show _ * (1 * prods ts) = _
  rw [Nat.one_mul]
theorem prods_perm {a b : List Nat} (h : a.Perm b) : prods a = prods b := by
  induction h with
  | nil => rfl
  | cons x _ ih => show fct x * _ = fct x * _; rw [ih]
  | swap x y l => show fct y * (fct x * prods l) = fct x * (fct y * prods l); ac_rfl
  | trans _ _ h1 h2 => exact h1.trans h2
theorem sum_perm {a b : List Nat} (h : a.Perm b) : a.sum = b.sum := by
  induction h with
  | nil => rfl
  | cons x _ ih => rw [List.sum_cons, List.sum_cons, ih]
  | swap x y l => simp only [List.sum_cons]; omega
  | trans _ _ h1 h2 => exact h1.trans h2
theorem rows_perm {a b : List Nat} (h : a.Perm b) : rows 0 a = rows 0 b := by
  refine rows_of ?_
  have h0 := rows_fct a 0
  rw [Nat.zero_add] at h0
  rw [← prods_perm h, ← sum_perm h, ← h0]
  show _ = _ * (1 * prods a)
  rw [Nat.one_mul]
/-- the product of all, divided by each one's, one behind another -/
theorem divs_of : ∀ (ts : List Nat) (m : Nat), ts.foldl (fun x t => x / fct t) (m * prods ts) = m
  | [], m => Nat.mul_one m
  | t :: ts, m => by
    show ts.foldl _ (m * (fct t * prods ts) / fct t) = m
    have e : m * (fct t * prods ts) / fct t = m * prods ts := by
      rw [Nat.mul_left_comm]
      exact Nat.mul_div_cancel_left _ (fct_pos t)
    rw [e]
    exact divs_of ts m
theorem divs_rows (ts : List Nat) : ts.foldl (fun x t => x / fct t) (fct ts.sum) = rows 0 ts := by
  have h0 := rows_fct ts 0
  rw [Nat.zero_add] at h0
  have e : fct ts.sum = rows 0 ts * prods ts := by
    rw [← h0]
    show _ * (1 * prods ts) = _
    rw [Nat.one_mul]
  rw [e]
  exact divs_of ts _
/-! ### one turn taken -/
def dec (ts : List Nat) (k : Nat) : List Nat := ts.set k (ts.getD k 0 - 1)
theorem rows_full (ts : List Nat) : rows 0 ts * prods ts = fct ts.sum := by
  have h := rows_fct ts 0
  rw [Nat.zero_add] at h
  rw [← h]
  show _ = _ * (1 * prods ts)
  rw [Nat.one_mul]
theorem dec_sum : ∀ (ts : List Nat) (k : Nat), 0 < ts.getD k 0 → (dec ts k).sum + 1 = ts.sum
  | [], _, h => absurd h (Nat.lt_irrefl 0)
  | t :: ts, 0, h => by
    have h' : 0 < t := h
    show (t - 1 + ts.sum) + 1 = t + ts.sum
    omega
  | t :: ts, k + 1, h => by
    have ih := dec_sum ts k h
    show (t + (dec ts k).sum) + 1 = t + ts.sum
    omega
theorem dec_prods : ∀ (ts : List Nat) (k : Nat), 0 < ts.getD k 0 → prods (dec ts k) * ts.getD k 0 = prods ts
  | [], _, h => absurd h (Nat.lt_irrefl 0)
  | t :: ts, 0, h => by
    obtain ⟨u, rfl⟩ : ∃ u, t = u + 1 := ⟨t - 1, by have h' : 0 < t := h; omega⟩
    show fct u * prods ts * (u + 1) = (u + 1) * fct u * prods ts
    ac_rfl
  | t :: ts, k + 1, h => by
    have ih := dec_prods ts k h
    show fct t * prods (dec ts k) * ts.getD k 0 = fct t * prods ts
    rw [Nat.mul_assoc, ih]
/-- of all rows, those that begin with one are as many as its part of the places -/
theorem rows_share {ts : List Nat} {k : Nat} (h : 0 < ts.getD k 0) : rows 0 ts * ts.getD k 0 = rows 0 (dec ts k) * ts.sum := by
  have h1 := rows_full ts
  have h2 := rows_full (dec ts k)
  have h3 := dec_sum ts k h
  have h4 := dec_prods ts k h
  refine Nat.eq_of_mul_eq_mul_right (prods_pos (dec ts k)) ?_
  have e1 : rows 0 ts * ts.getD k 0 * prods (dec ts k) = fct ts.sum := by
    rw [← h1, ← h4]
    ac_rfl
  have e2 : rows 0 (dec ts k) * ts.sum * prods (dec ts k) = ts.sum * fct (dec ts k).sum := by
    rw [← h2]
    ac_rfl
  rw [e1, e2, ← h3]
  rfl
theorem rows_shareD {ts : List Nat} {k : Nat} (h : 0 < ts.getD k 0) : rows 0 ts * ts.getD k 0 / ts.sum = rows 0 (dec ts k) := by
  rw [rows_share h]
  refine Nat.mul_div_cancel _ ?_
  have := dec_sum ts k h
  omega
/-- the rows that begin with one -/
def begin_ (ts : List Nat) (k : Nat) : Nat := if 0 < ts.getD k 0 then rows 0 (dec ts k) else 0
theorem begin_share (ts : List Nat) (k : Nat) (hs : 0 < ts.sum) : rows 0 ts * ts.getD k 0 / ts.sum = begin_ ts k := by
  unfold begin_
  by_cases h : 0 < ts.getD k 0
  · rw [if_pos h]
    exact rows_shareD h
  · rw [if_neg h, show ts.getD k 0 = 0 by omega, Nat.mul_zero, Nat.zero_div]
theorem begin_mul (ts : List Nat) (k : Nat) : begin_ ts k * ts.sum = rows 0 ts * ts.getD k 0 := by
  unfold begin_
  by_cases h : 0 < ts.getD k 0
  · rw [if_pos h]
    exact (rows_share h).symm
  · rw [if_neg h, show ts.getD k 0 = 0 by omega, Nat.mul_zero, Nat.zero_mul]
/-- those that begin with one of the first j -/
theorem begin_sum (ts : List Nat) : ∀ j, ((List.range j).map (begin_ ts)).sum * ts.sum = rows 0 ts * (ts.take j).sum
  | 0 => by simp
  | j + 1 => by
    have ih := begin_sum ts j
    rw [List.range_succ, List.map_append, List.sum_append, Nat.add_mul, ih]
    have e : (ts.take (j + 1)).sum = (ts.take j).sum + ts.getD j 0 := by
      rw [List.take_add_one, List.sum_append, List.getD_eq_getElem?_getD]
      cases ts[j]? with
      | none => simp
      | some x => simp
    rw [e, Nat.mul_add]
    congr 1
    simp only [List.map_cons, List.map_nil, List.sum_cons, List.sum_nil, Nat.add_zero]
    exact begin_mul ts j
theorem begin_all (ts : List Nat) (hs : 0 < ts.sum) : ((List.range ts.length).map (begin_ ts)).sum = rows 0 ts := by
  have h := begin_sum ts ts.length
  rw [List.take_length] at h
  exact Nat.eq_of_mul_eq_mul_right hs h
theorem begin_ahead (ts : List Nat) (j : Nat) (hs : 0 < ts.sum) : rows 0 ts * (ts.take j).sum / ts.sum = ((List.range j).map (begin_ ts)).sum := by
  rw [← begin_sum ts j]
  exact Nat.mul_div_cancel _ hs
end As

namespace As
open PySem PySem.Spec PyProof.Rows L2
theorem rows_snoc : ∀ (ts : List Nat) (s t : Nat), rows s (ts ++ [t]) = rows s ts * tri (s + ts.sum) t
  | [], s, t => by
    show tri s t * 1 = 1 * tri (s + 0) t
    rw [Nat.mul_one, Nat.one_mul, Nat.add_zero]
  | u :: ts, s, t => by
    show tri s u * rows (s + u) (ts ++ [t]) = tri s u * rows (s + u) ts * tri (s + (u :: ts).sum) t
    rw [rows_snoc ts (s + u) t, List.sum_cons, Nat.mul_assoc, Nat.add_assoc]
def tnOf (ls : List (List Pr)) : List Nat := ls.map fun l => l.length + 1
theorem turns_tn (ls : List (List Pr)) : turnsOf ls = (tnOf ls).map fun (t : Nat) => (t : Int) := by
  unfold turnsOf tnOf
  rw [List.map_map]
  rfl
theorem sum_le : ∀ {ts : List Nat} {m : Nat}, (∀ t ∈ ts, t ≤ m) → ts.sum ≤ m * ts.length
  | [], _, _ => Nat.zero_le _
  | t :: ts, m, h => by
    have ih := sum_le (ts := ts) (m := m) fun u hu => h u (List.mem_cons_of_mem _ hu)
    have h1 := h t (List.mem_cons_self ..)
    rw [List.sum_cons, List.length_cons, Nat.mul_add, Nat.mul_one]
    omega
abbrev sHow : Stmt := topS 21
abbrev nHow : List Str := ["dealings", "total", "size", "times", "turn"]
theorem scHow : FnScope nHow ["dealings"] (defScope sHow) := ⟨rfl, rfl, rfl, by decide +kernel, rfl, by decide +kernel, by decide +kernel⟩
section
variable {P : Program} {w : World} {K : PySem.W.Frag} {mg : Str → Option Value} {base : Heap} {CA CS : Addr}
def spHow (CS : Addr) : Sp := fun vs H Q E => ∃ (st : Addr) (v : V) (d : D), vs = [v] ∧ TD st H v d ∧ (areDealings d = false → ∀ H', Same H H' → E (.ref CS) none H') ∧
  ∀ ls, d = dsD ls → areDealings d = true → ∀ H', Same H H' → Q (.int (rows 0 (tnOf ls) : Nat)) H'
theorem ok_how {f f1 f3 : Addr} {fd fd1 fd3 : FuncData} {k : Nat} (F : Fun K "how_many" "how_many" sHow f fd) (M : Mg mg)
    (G1 : FnOk P w K mg base (L2.CX P w) k f1 fd1 ["thing"] (spCheckS CS)) (g1 : mg "check_dealings" = some (.ref f1)) (k1 : PySem.W.keepIn K (.ref f1) = true) (b1 : Binds K fd1 ["thing"] [])
    (G3 : FnOk P w K mg base CX0 k f3 fd3 ["dealings"] spTurns) (g3 : mg "turns_of" = some (.ref f3)) (k3 : PySem.W.keepIn K (.ref f3) = true) (b3 : Binds K fd3 ["dealings"] []) :
    FnOk P w K mg base (L2.CX P w) (k + 1) f fd ["dealings"] (spHow CS) := by
  refine F.okX scHow (fun vs H Q E h => ?_) (fun cdv A outer s H vs Q E hr h => ?_)
  · obtain ⟨st, v, d, rfl, _⟩ := h
    rfl
  · obtain ⟨st, v, d, rfl, td, q1, q2⟩ := h
    refine ⟨_, pss_cons (ps_expr (pe_call (E := E) G1 hr (by rfl) g1 k1 b1 .nil (passes_call (takes_of rfl rfl rfl rfl) (fun _ _ _ _ h => h)) (pa_cons (pv 0) pa_nil)))
      (PSs.nox (pss_cons (ps_set (i := 1) scHow.nd rfl (.inl rfl) pe_int)
      (pss_cons (ps_set (i := 2) scHow.nd rfl (.inl rfl) pe_int)
      (pss_cons (ps_for PassesOwn.never rfl (pi_list (pe_call G3 hr (by rfl) g3 k3 b3 .nil pass0 (pa_cons (pv 0) pa_nil))) (pg_name (i := 3) scHow.nd rfl (.inl rfl))
        (pss_one (ps_for PassesOwn.never rfl (pi_range2 (by rfl) M.range (pa_cons pe_int (pa_cons (pe_add (pv 3) pe_int) pa_nil))) (pg_name (i := 4) scHow.nd rfl (.inl rfl))
          (pss_cons (ps_aug (i := 2) scHow.nd rfl (.inl rfl) pe_int ip_add)
          (pss_one (ps_set (i := 1) scHow.nd rfl (.inl rfl) (pe_op op_fdiv (pe_op op_mul (pv 1) (pv 2)) (pv 4))))))))
      (pss_one (ps_ret (pv 1))))))), ?_⟩
    refine ⟨v, rfl, st, v, d, rfl, td, fun hd H1 e1 => ?_, q1⟩
    obtain ⟨ls, rfl, okl, n1, n100⟩ := dealings_of hd
    have qY := q2 ls rfl hd
    have t9 : ∀ t ∈ tnOf ls, t ≤ 9 := fun t ht => by
      obtain ⟨l, hl, rfl⟩ := List.mem_map.mp ht
      have := (okl l hl).2.2.1
      omega
    have htl : (tnOf ls).length = ls.length := by unfold tnOf; rw [List.length_map]
    refine ⟨v, rfl, st, v, ls, rfl, td.mono (.of e1), by omega, fun tp H3 ntp e3 ht => ⟨tp, rfl, ⟨_, SqL.of ht⟩, ?_⟩⟩
    have e13 := Same.trans e1 e3
    rw [turns_tn] at ht
    refine for_list (xs := ((tnOf ls).map fun (t : Nat) => (t : Int)).map V.int) (fun i σ H' => ∃ y3 y4, σ = [some v, some (.int (rows 0 ((tnOf ls).take i) : Nat)), some (.int (((tnOf ls).take i).sum : Nat)), y3, y4] ∧ Same H3 H') ⟨none, none, rfl, Same.refl _⟩ (fun i σ H' _ hP => ?_) (fun i x σ H4 hx hP => ?_) (fun σ H4 hP => ?_)
    · obtain ⟨_, _, _, e⟩ := hP
      exact SqL.of (e _ _ ht)
    · obtain ⟨y3, y4, rfl, e4⟩ := hP
      rw [List.getElem?_map, List.getElem?_map] at hx
      cases hti : (tnOf ls)[i]? with
      | none => rw [hti] at hx; cases hx
      | some t =>
        rw [hti] at hx
        have ex : V.int (t : Int) = x := Option.some.inj hx
        subst ex
        have ht9 := t9 t (List.mem_of_getElem? hti)
        have hsum : ((tnOf ls).take i).sum ≤ 900 := by
          have h1 := sum_le (ts := (tnOf ls).take i) (m := 9) fun u hu => t9 u (List.mem_of_mem_take hu)
          have h2 : ((tnOf ls).take i).length ≤ 100 := by rw [List.length_take]; omega
          omega
        have etk : (tnOf ls).take (i + 1) = (tnOf ls).take i ++ [t] := by rw [List.take_add_one, hti]; rfl
        have er : rows 0 ((tnOf ls).take (i + 1)) = rows 0 ((tnOf ls).take i) * tri ((tnOf ls).take i).sum t := by rw [etk, rows_snoc, Nat.zero_add]
        have es : ((tnOf ls).take (i + 1)).sum = ((tnOf ls).take i).sum + t := by rw [etk, List.sum_append]; simp
        obtain ⟨R, hR⟩ : ∃ R, rows 0 ((tnOf ls).take i) = R := ⟨_, rfl⟩
        obtain ⟨S, hS⟩ : ∃ S, ((tnOf ls).take i).sum = S := ⟨_, rfl⟩
        rw [hR, hS] at er
        rw [hS] at es hsum
        rw [hR, hS]
        refine ⟨.int t, rfl, (t : Int), 1, rfl, rfl, 1, (t : Int) + 1, rfl, ⟨by omega, by omega, by omega, by omega⟩, ?_⟩
        rw [show ((t : Int) + 1 - 1).toNat = t by omega]
        refine for_range (lo := 1) (fun j σ H' => ∃ y4, σ = [some v, some (.int (R * tri S j : Nat)), some (.int (S + j : Nat)), some (.int t), y4] ∧ Same H3 H') ⟨y4, by rw [tri_zero, Nat.mul_one, Nat.add_zero]; rfl, e4⟩ (fun j σ H5 hj hP => ?_) (fun σ H5 hP => ?_)
        · obtain ⟨y4', rfl, e5⟩ := hP
          refine ⟨.int (S + j : Nat), rfl, _, 1, rfl, rfl, .int (R * tri S j : Nat), rfl, .int (((S + j : Nat) : Int) + 1), rfl, _, _, rfl, rfl, .inr ⟨by omega, by omega⟩, .int (1 + (j : Int)), rfl, _, _, rfl, rfl, ⟨by omega, by omega⟩, some (.int (1 + (j : Int))), ?_, e5⟩
          have e8 : ((R * tri S j : Nat) : Int) * (((S + j : Nat) : Int) + 1) / (1 + (j : Int)) = ((R * tri S (j + 1) : Nat) : Int) := by
            have e7 := tri_div R S j
            rw [show ((R * tri S j : Nat) : Int) * (((S + j : Nat) : Int) + 1) = ((R * tri S j * (S + j + 1) : Nat) : Int) by push_cast; rfl, show (1 + (j : Int)) = ((j + 1 : Nat) : Int) by omega, ← Int.natCast_ediv, e7]
          show [some v, some (V.int (((R * tri S j : Nat) : Int) * (((S + j : Nat) : Int) + 1) / (1 + (j : Int)))), some (V.int (((S + j : Nat) : Int) + 1)), some (V.int t), some (V.int (1 + (j : Int)))] = _
          rw [e8]
          rfl
        · obtain ⟨y4', rfl, e5⟩ := hP
          exact ⟨some (.int t), y4', by rw [er, es], e5⟩
    · obtain ⟨y3, y4, rfl, e4⟩ := hP
      rw [List.length_map, List.length_map, List.take_length]
      exact ⟨_, rfl, qY _ (Same.trans e13 e4)⟩
end
end As

namespace As
open PySem PySem.Spec PyProof.Rows L2
abbrev sProd : Stmt := topS 34
abbrev sReck : Stmt := topS 35
theorem scProd : FnScope ["_law_many", "_law_found", "_law_k"] ["_law_many"] (defScope sProd) := ⟨rfl, rfl, rfl, by decide +kernel, rfl, by decide +kernel, by decide +kernel⟩
theorem scReck : FnScope ["_law_turns", "_law_found", "_law_turn"] ["_law_turns"] (defScope sReck) := ⟨rfl, rfl, rfl, by decide +kernel, rfl, by decide +kernel, by decide +kernel⟩
theorem fct_small : ∀ t, t < 10 → fct t < 1073741824 := by decide +kernel
theorem sum_cast : ∀ ts : List Nat, (ts.map fun (t : Nat) => (t : Int)).sum = (ts.sum : Nat)
  | [] => rfl
  | t :: ts => by
    rw [List.map_cons, List.sum_cons, List.sum_cons, sum_cast ts]
    omega
section
variable {P : Program} {w : World} {K : PySem.W.Frag} {mg : Str → Option Value} {base : Heap}
def spProd : Sp := fun vs H Q _ => ∃ m : Nat, vs = [.int (m : Int)] ∧ 1 ≤ m ∧ m ≤ 1000 ∧ Q (.int (fct m : Nat)) H
theorem ok_prod {f : Addr} {fd : FuncData} {k : Nat} (F : Fun K "_law_product" "_law_product" sProd f fd) (M : Mg mg) : FnOk P w K mg base CX0 (k + 1) f fd ["_law_many"] spProd := by
  refine F.ok scProd (fun vs H Q E h => ?_) (fun cdv A outer s H vs Q E hr h => ?_)
  · obtain ⟨m, rfl, _⟩ := h
    rfl
  · obtain ⟨m, rfl, m1, m1000, q⟩ := h
    refine ⟨_, pss_cons (ps_set (i := 1) scProd.nd rfl (.inl rfl) pe_int)
      (pss_cons (ps_for PassesOwn.never rfl (pi_range2 (by rfl) M.range (pa_cons pe_int (pa_cons (pe_add (pv 0) pe_int) pa_nil))) (pg_name (i := 2) scProd.nd rfl (.inl rfl))
        (pss_one (ps_set (i := 1) scProd.nd rfl (.inl rfl) (pe_op op_mul (pv 1) (pv 2)))))
      (pss_one (ps_ret (pv 1)))), ?_⟩
    refine ⟨.int m, rfl, (m : Int), 1, rfl, rfl, 2, (m : Int) + 1, rfl, ⟨by omega, by omega, by omega, by omega⟩, ?_⟩
    rw [show ((m : Int) + 1 - 2).toNat = m - 1 by omega]
    refine for_range (lo := 2) (fun i σ H' => ∃ y2, σ = [some (.int m), some (.int (fct (i + 1) : Nat)), y2] ∧ H' = H) ⟨none, rfl, rfl⟩ (fun i σ H5 hi hP => ?_) (fun σ H5 hP => ?_)
    · obtain ⟨y2, rfl, rfl⟩ := hP
      refine ⟨.int (fct (i + 1) : Nat), rfl, .int (2 + (i : Int)), rfl, _, _, rfl, rfl, .inr ⟨by omega, by omega⟩, some (.int (2 + (i : Int))), ?_, rfl⟩
      show [some (V.int m), some (V.int (((fct (i + 1) : Nat) : Int) * (2 + (i : Int)))), some (V.int (2 + (i : Int)))] = _
      have e : ((fct (i + 1) : Nat) : Int) * (2 + (i : Int)) = ((fct (i + 1 + 1) : Nat) : Int) := by
        show _ = (((i + 1 + 1) * fct (i + 1) : Nat) : Int)
        rw [show (2 + (i : Int)) = ((i + 1 + 1 : Nat) : Int) by omega, Int.natCast_mul, Int.mul_comm]
      rw [e]
    · obtain ⟨y2, rfl, rfl⟩ := hP
      rw [show m - 1 + 1 = m by omega]
      exact ⟨_, rfl, q⟩
def spReck (K : PySem.W.Frag) : Sp := fun vs H Q _ => ∃ (a : Addr) (ts : List Nat), vs = [.ref a] ∧ SqL K H a ((ts.map fun (t : Nat) => (t : Int)).map V.int) ∧ (∀ t ∈ ts, 1 ≤ t ∧ t ≤ 9) ∧ 1 ≤ ts.length ∧ ts.length ≤ 100 ∧ Q (.int (rows 0 ts : Nat)) H
theorem ok_reck {f f1 : Addr} {fd fd1 : FuncData} {k : Nat} (F : Fun K "_law_reckoned" "_law_reckoned" sReck f fd) (M : Mg mg) (G1 : FnOk P w K mg base CX0 k f1 fd1 ["_law_many"] spProd) (g1 : mg "_law_product" = some (.ref f1)) (k1 : PySem.W.keepIn K (.ref f1) = true) (b1 : Binds K fd1 ["_law_many"] []) :
    FnOk P w K mg base CX0 (k + 1) f fd ["_law_turns"] (spReck K) := by
  refine F.ok scReck (fun vs H Q E h => ?_) (fun cdv A outer s H vs Q E hr h => ?_)
  · obtain ⟨a, ts, rfl, _⟩ := h
    rfl
  · obtain ⟨a, ts, rfl, hS, ht, n1, n100, q⟩ := h
    refine ⟨_, pss_cons (ps_set (i := 1) scReck.nd rfl (.inl rfl) (pe_call G1 hr (by rfl) g1 k1 b1 .nil pass0 (pa_cons (pe_callB (cr_sum rfl) (by rfl) M.sum (by decide +kernel) (pa_cons (pv 0) pa_nil)) pa_nil)))
      (pss_cons (ps_for PassesOwn.never rfl (pi_list (pv 0)) (pg_name (i := 2) scReck.nd rfl (.inl rfl))
        (pss_one (ps_set (i := 1) scReck.nd rfl (.inl rfl) (pe_op op_fdiv (pv 1) (pe_call G1 hr (by rfl) g1 k1 b1 .nil pass0 (pa_cons (pv 2) pa_nil))))))
      (pss_one (ps_ret (pv 1)))), ?_⟩
    have hs900 : ts.sum ≤ 900 := by
      have := sum_le (ts := ts) (m := 9) fun t h => (ht t h).2
      omega
    have hs1 : 1 ≤ ts.sum := by
      cases ts with
      | nil => exact absurd n1 (by decide)
      | cons t ts =>
        have := (ht t (List.mem_cons_self ..)).1
        rw [List.sum_cons]
        omega
    refine ⟨.ref a, rfl, a, _, rfl, hS, ?_⟩
    rw [sum_cast]
    refine ⟨ts.sum, rfl, hs1, by omega, ?_⟩
    refine ⟨.ref a, rfl, a, rfl, ⟨_, hS⟩, ?_⟩
    refine for_list (xs := (ts.map fun (t : Nat) => (t : Int)).map V.int) (fun i σ H' => ∃ y2, σ = [some (.ref a), some (.int (((ts.take i).foldl (fun x t => x / fct t) (fct ts.sum) : Nat) : Int)), y2] ∧ H' = H) ⟨none, by rw [List.take_zero]; rfl, rfl⟩ (fun i σ H' _ hP => ?_) (fun i x σ H4 hx hP => ?_) (fun σ H4 hP => ?_)
    · obtain ⟨_, _, rfl⟩ := hP
      exact hS
    · obtain ⟨y2, rfl, rfl⟩ := hP
      rw [List.getElem?_map, List.getElem?_map] at hx
      cases hti : ts[i]? with
      | none => rw [hti] at hx; cases hx
      | some t =>
        rw [hti] at hx
        have ex : V.int (t : Int) = x := Option.some.inj hx
        subst ex
        obtain ⟨h1, h9⟩ := ht t (List.mem_of_getElem? hti)
        have hp := fct_pos t
        have hsm := fct_small t (by omega)
        refine ⟨_, rfl, .int t, rfl, t, rfl, h1, by omega, _, _, rfl, rfl, ⟨by omega, by omega⟩, some (.int t), ?_, rfl⟩
        rw [List.take_add_one, hti, List.foldl_append]
        rfl
    · obtain ⟨y2, rfl, rfl⟩ := hP
      rw [List.length_map, List.length_map, List.take_length, divs_rows]
      exact ⟨_, rfl, q⟩
end
end As

namespace As
/-! ### a row's number among the rows of the same turns: Nat alone -/
def pre (ts : List Nat) (k : Nat) : Nat := ((List.range k).map (begin_ ts)).sum
theorem pre_next (ts : List Nat) (k : Nat) : pre ts (k + 1) = pre ts k + begin_ ts k := by
  unfold pre
  rw [List.range_succ, List.map_append, List.sum_append]
  simp
theorem pre_mono (ts : List Nat) {j k : Nat} (h : j ≤ k) : pre ts j ≤ pre ts k := by
  induction h with
  | refl => exact Nat.le_refl _
  | step _ ih => exact Nat.le_trans ih (by rw [Nat.succ_eq_add_one, pre_next]; exact Nat.le_add_right _ _)
theorem pre_all (ts : List Nat) (hs : 0 < ts.sum) : pre ts ts.length = rows 0 ts := begin_all ts hs
/-- the numbers in it are just the turns that are left -/
def isW : List Nat → List Nat → Prop
  | ts, [] => ts.sum = 0
  | ts, k :: w => 0 < ts.getD k 0 ∧ isW (dec ts k) w
def rank : List Nat → List Nat → Nat
  | _, [] => 0
  | ts, k :: w => pre ts k + rank (dec ts k) w
theorem getD_lt {ts : List Nat} {k : Nat} (h : 0 < ts.getD k 0) : k < ts.length := by
  apply Nat.lt_of_not_le
  intro hl
  rw [List.getD_eq_getElem?_getD, List.getElem?_eq_none hl] at h
  exact absurd h (Nat.lt_irrefl 0)
theorem prods_zero : ∀ {ts : List Nat}, ts.sum = 0 → prods ts = 1
  | [], _ => rfl
  | t :: ts, h => by
    rw [List.sum_cons] at h
    obtain ⟨rfl, h'⟩ : t = 0 ∧ ts.sum = 0 := by omega
    show 1 * prods ts = 1
    rw [prods_zero h']
theorem rows_zero {ts : List Nat} (h : ts.sum = 0) : rows 0 ts = 1 := by
  refine (rows_of (m := 1) ?_).symm
  rw [prods_zero h, h]
  rfl
theorem rank_lt : ∀ {w ts : List Nat}, isW ts w → rank ts w < rows 0 ts
  | [], ts, h => by
    rw [rows_zero h]
    exact Nat.one_pos
  | k :: w, ts, h => by
    obtain ⟨h1, h2⟩ := h
    have ih := rank_lt h2
    have hb : begin_ ts k = rows 0 (dec ts k) := if_pos h1
    have hk := getD_lt h1
    have hs : 0 < ts.sum := by
      have := dec_sum ts k h1
      omega
    have h3 := pre_mono ts (j := k + 1) (k := ts.length) hk
    rw [pre_all ts hs, pre_next, hb] at h3
    show pre ts k + rank (dec ts k) w < rows 0 ts
    omega
/-- where a number's first turn is -/
theorem first_at {ts : List Nat} {k : Nat} {w : List Nat} (h : isW ts (k :: w)) : pre ts k ≤ rank ts (k :: w) ∧ rank ts (k :: w) < pre ts k + begin_ ts k := by
  obtain ⟨h1, h2⟩ := h
  have ih := rank_lt h2
  have hb : begin_ ts k = rows 0 (dec ts k) := if_pos h1
  refine ⟨Nat.le_add_right _ _, ?_⟩
  show pre ts k + rank (dec ts k) w < _
  omega
theorem first_only {ts : List Nat} {j k m : Nat} (h1 : pre ts j ≤ m) (h2 : m < pre ts (j + 1)) (h3 : pre ts k ≤ m) (h4 : m < pre ts (k + 1)) : j = k := by
  rcases Nat.lt_trichotomy j k with h | h | h
  · have := pre_mono ts (j := j + 1) (k := k) h
    omega
  · exact h
  · have := pre_mono ts (j := k + 1) (k := j) h
    omega
/-- two rows of the same turns that have the same number are the same -/
theorem rank_inj : ∀ {w v ts : List Nat}, isW ts w → isW ts v → rank ts w = rank ts v → w = v
  | [], [], _, _, _, _ => rfl
  | [], k :: v, ts, h1, h2, _ => by
    have h3 := dec_sum ts k h2.1
    have h4 : ts.sum = 0 := h1
    omega
  | k :: w, [], ts, h1, h2, _ => by
    have h3 := dec_sum ts k h1.1
    have h4 : ts.sum = 0 := h2
    omega
  | k :: w, j :: v, ts, h1, h2, e => by
    have a1 := first_at h1
    have a2 := first_at h2
    rw [← pre_next] at a1 a2
    rw [← e] at a2
    have ek := first_only a1.1 a1.2 a2.1 a2.2
    subst ek
    have e' : pre ts k + rank (dec ts k) w = pre ts k + rank (dec ts k) v := e
    rw [rank_inj h1.2 h2.2 (by omega)]
/-- a row that stands ahead as a list has the lesser number -/
theorem rank_less {ts : List Nat} {j k : Nat} {w v : List Nat} (h1 : isW ts (j :: w)) (h2 : isW ts (k :: v)) (h : j < k) : rank ts (j :: w) < rank ts (k :: v) := by
  have a1 := first_at h1
  have a2 := first_at h2
  rw [← pre_next] at a1
  have := pre_mono ts (j := j + 1) (k := k) h
  omega
/-- each number has its row -/
theorem rank_onto : ∀ (n : Nat) {ts : List Nat} {m : Nat}, ts.sum = n → m < rows 0 ts → ∃ w, isW ts w ∧ rank ts w = m
  | 0, ts, m, hs, hm => by
    rw [rows_zero hs] at hm
    exact ⟨[], hs, show 0 = m by omega⟩
  | n + 1, ts, m, hs, hm => by
    have hp : 0 < ts.sum := by omega
    have ex : ∀ k, m < pre ts k → ∃ j, j < k ∧ pre ts j ≤ m ∧ m < pre ts (j + 1) := by
      intro k
      induction k with
      | zero =>
        intro h
        exact absurd h (Nat.not_lt_zero _)
      | succ k ih =>
        intro h
        by_cases h' : m < pre ts k
        · obtain ⟨j, a, b, c⟩ := ih h'
          exact ⟨j, by omega, b, c⟩
        · exact ⟨k, by omega, by omega, h⟩
    obtain ⟨j, _, hj1, hj2⟩ := ex ts.length (by rw [pre_all ts hp]; exact hm)
    rw [pre_next] at hj2
    have hpos : 0 < ts.getD j 0 := by
      apply Nat.pos_of_ne_zero
      intro z
      have : begin_ ts j = 0 := if_neg (by omega)
      omega
    have hb : begin_ ts j = rows 0 (dec ts j) := if_pos hpos
    have hds := dec_sum ts j hpos
    obtain ⟨w, hw, hr⟩ := rank_onto n (ts := dec ts j) (m := m - pre ts j) (by omega) (by omega)
    refine ⟨j :: w, ⟨hpos, hw⟩, ?_⟩
    show pre ts j + rank (dec ts j) w = m
    omega
end As

namespace As
/-! ### rows of turns, floor by floor: Nat alone -/
def inc (l : List Nat) (k : Nat) : List Nat := l.set k (l.getD k 0 + 1)
theorem inc_len (l : List Nat) (k : Nat) : (inc l k).length = l.length := List.length_set
theorem dec_len (l : List Nat) (k : Nat) : (dec l k).length = l.length := List.length_set
theorem getD_set (l : List Nat) (k j v : Nat) (hk : k < l.length) : (l.set k v).getD j 0 = if j = k then v else l.getD j 0 := by
  rw [List.getD_eq_getElem?_getD, List.getD_eq_getElem?_getD, List.getElem?_set]
  by_cases e : k = j
  · subst e
    rw [if_pos rfl, if_pos hk, if_pos rfl]
    rfl
  · rw [if_neg e, if_neg (fun z => e z.symm)]
theorem inc_dec {m : List Nat} {k : Nat} (h : 0 < m.getD k 0) : inc (dec m k) k = m := by
  have hk := getD_lt h
  unfold inc dec
  rw [getD_set m k k _ hk, if_pos rfl, List.set_set, show m.getD k 0 - 1 + 1 = m.getD k 0 by omega, List.getD_eq_getElem?_getD, List.getElem?_eq_getElem hk]
  show m.set k m[k] = m
  exact List.set_getElem_self hk
theorem dec_inc {l : List Nat} {k : Nat} (hk : k < l.length) : dec (inc l k) k = l := by
  unfold inc dec
  rw [getD_set l k k _ hk, if_pos rfl, List.set_set, Nat.add_sub_cancel, List.getD_eq_getElem?_getD, List.getElem?_eq_getElem hk]
  show l.set k l[k] = l
  exact List.set_getElem_self hk
theorem inc_sum {l : List Nat} {k : Nat} (hk : k < l.length) : (inc l k).sum = l.sum + 1 := by
  have h : 0 < (inc l k).getD k 0 := by
    unfold inc
    rw [getD_set l k k _ hk, if_pos rfl]
    omega
  have := dec_sum (inc l k) k h
  rw [dec_inc hk] at this
  omega
/-- the rows of one floor: no turn beyond its bound, so many together -/
def Fl (ts : List Nat) (i : Nat) (l : List Nat) : Prop := l.length = ts.length ∧ (∀ k, l.getD k 0 ≤ ts.getD k 0) ∧ l.sum = i
theorem Fl.inc {ts l : List Nat} {i k : Nat} (h : Fl ts i l) (hk : l.getD k 0 < ts.getD k 0) : Fl ts (i + 1) (inc l k) := by
  obtain ⟨h1, h2, h3⟩ := h
  have hkl : k < l.length := by
    rw [h1]
    exact getD_lt (by omega)
  refine ⟨(inc_len l k).trans h1, fun j => ?_, by rw [inc_sum hkl, h3]⟩
  unfold As.inc
  rw [getD_set l k j _ hkl]
  by_cases e : j = k
  · subst e
    rw [if_pos rfl]
    exact hk
  · rw [if_neg e]
    exact h2 j
theorem Fl.dec {ts m : List Nat} {i k : Nat} (h : Fl ts (i + 1) m) (hk : 0 < m.getD k 0) : Fl ts i (dec m k) := by
  obtain ⟨h1, h2, h3⟩ := h
  have hkl := getD_lt hk
  have hs := dec_sum m k hk
  refine ⟨(dec_len m k).trans h1, fun j => ?_, by omega⟩
  unfold As.dec
  rw [getD_set m k j _ hkl]
  have := h2 j
  by_cases e : j = k
  · subst e
    rw [if_pos rfl]
    omega
  · rw [if_neg e]
    exact this
theorem sum_zero_get : ∀ {l : List Nat}, l.sum = 0 → ∀ k, l.getD k 0 = 0
  | [], _, k => by simp
  | t :: l, h, k => by
    rw [List.sum_cons] at h
    cases k with
    | zero => show t = 0; omega
    | succ k => exact sum_zero_get (l := l) (by omega) k
theorem sum_pos_get : ∀ {l : List Nat}, 0 < l.sum → ∃ k, 0 < l.getD k 0
  | [], h => absurd h (Nat.lt_irrefl 0)
  | t :: l, h => by
    rw [List.sum_cons] at h
    by_cases ht : 0 < t
    · exact ⟨0, ht⟩
    · obtain ⟨k, hk⟩ := sum_pos_get (l := l) (by omega)
      exact ⟨k + 1, hk⟩
theorem Fl.first {ts : List Nat} {l : List Nat} : Fl ts 0 l ↔ l = List.replicate ts.length 0 := by
  constructor
  · rintro ⟨h1, _, h3⟩
    refine List.ext_getElem (by rw [h1, List.length_replicate]) fun j a b => ?_
    have := sum_zero_get h3 j
    rw [List.getD_eq_getElem?_getD, List.getElem?_eq_getElem a] at this
    rw [List.getElem_replicate]
    exact this
  · rintro rfl
    refine ⟨List.length_replicate, fun k => ?_, ?_⟩
    · rw [List.getD_eq_getElem?_getD]
      by_cases hk : k < ts.length
      · rw [List.getElem?_replicate, if_pos hk]
        exact Nat.zero_le _
      · rw [List.getElem?_replicate, if_neg hk]
        exact Nat.zero_le _
    · simp
theorem get_le_eq : ∀ {l ts : List Nat}, l.length = ts.length → (∀ k, l.getD k 0 ≤ ts.getD k 0) → l.sum ≤ ts.sum ∧ (l.sum = ts.sum → l = ts)
  | [], [], _, _ => ⟨Nat.le_refl _, fun _ => rfl⟩
  | [], _ :: _, h, _ => by cases h
  | _ :: _, [], h, _ => by cases h
  | a :: l, b :: ts, h, g => by
    obtain ⟨h1, h2⟩ := get_le_eq (l := l) (ts := ts) (Nat.succ.inj h) fun k => g (k + 1)
    have h0 : a ≤ b := g 0
    rw [List.sum_cons, List.sum_cons]
    refine ⟨by omega, fun e => ?_⟩
    rw [h2 (by omega), show a = b by omega]
theorem Fl.last {ts l : List Nat} : Fl ts ts.sum l ↔ l = ts := by
  constructor
  · rintro ⟨h1, h2, h3⟩
    exact (get_le_eq h1 h2).2 h3
  · rintro rfl
    exact ⟨rfl, fun _ => Nat.le_refl _, rfl⟩
/-! ### what a floor hands on -/
def gv (ts l m : List Nat) (k : Nat) : Nat := if l.getD k 0 < ts.getD k 0 ∧ inc l k = m then rows 0 l else 0
def gs (ts l m : List Nat) (k : Nat) : Nat := ((List.range k).map (gv ts l m)).sum
def gt (ts : List Nat) (ks : List (List Nat)) (m : List Nat) : Nat := (ks.map fun l => gs ts l m ts.length).sum
theorem gs_next (ts l m : List Nat) (k : Nat) : gs ts l m (k + 1) = gs ts l m k + gv ts l m k := by
  unfold gs
  rw [List.range_succ, List.map_append, List.sum_append]
  simp
theorem gt_snoc (ts : List Nat) (ks : List (List Nat)) (l m : List Nat) : gt ts (ks ++ [l]) m = gt ts ks m + gs ts l m ts.length := by
  unfold gt
  rw [List.map_append, List.sum_append]
  simp
theorem sum_swap {α : Type} (f : α → Nat → Nat) (ks : List α) : ∀ n, (ks.map fun l => ((List.range n).map (f l)).sum).sum = ((List.range n).map fun b => (ks.map fun l => f l b).sum).sum
  | 0 => by
    simp
    induction ks with
    | nil => rfl
    | cons a ks ih => simp [ih]
  | n + 1 => by
    have ih := sum_swap f ks n
    rw [List.range_succ, List.map_append, List.sum_append, ← ih]
    have e : ∀ ks : List α, (ks.map fun l => ((List.range n ++ [n]).map (f l)).sum).sum = (ks.map fun l => ((List.range n).map (f l)).sum).sum + (ks.map fun l => f l n).sum := by
      intro ks
      induction ks with
      | nil => rfl
      | cons a ks ih2 =>
        rw [List.map_cons, List.sum_cons, ih2, List.map_cons, List.sum_cons, List.map_cons, List.sum_cons, List.map_append, List.sum_append]
        simp only [List.map_cons, List.map_nil, List.sum_cons, List.sum_nil, Nat.add_zero]
        omega
    rw [e]
    simp
theorem sum_one {α : Type} [DecidableEq α] (f : α → Nat) (a : α) : ∀ {ks : List α}, ks.Nodup → (ks.map fun l => if l = a then f l else 0).sum = if a ∈ ks then f a else 0
  | [], _ => by simp
  | k :: ks, h => by
    rw [List.nodup_cons] at h
    rw [List.map_cons, List.sum_cons, sum_one f a h.2]
    by_cases e : k = a
    · subst e
      rw [if_pos rfl, if_neg h.1, if_pos (List.mem_cons_self ..)]
      rfl
    · rw [if_neg e, Nat.zero_add]
      by_cases e2 : a ∈ ks
      · rw [if_pos e2, if_pos (List.mem_cons_of_mem _ e2)]
      · rw [if_neg e2, if_neg]
        intro z
        rcases List.mem_cons.mp z with z | z
        · exact e z.symm
        · exact e2 z
theorem rows_pos (ts : List Nat) : 0 < rows 0 ts := by
  have h := rows_full ts
  have := fct_pos ts.sum
  apply Nat.pos_of_ne_zero
  intro z
  rw [z, Nat.zero_mul] at h
  omega
theorem zeros_sum {α : Type} : ∀ ks : List α, (ks.map fun _ => (0 : Nat)).sum = 0
  | [] => rfl
  | _ :: ks => by rw [List.map_cons, List.sum_cons, zeros_sum ks]
theorem gt_full {ts : List Nat} {ks : List (List Nat)} {i : Nat} {m : List Nat} (nd : ks.Nodup) (hk : ∀ l, l ∈ ks ↔ Fl ts i l) (hm : Fl ts (i + 1) m) : gt ts ks m = rows 0 m := by
  have hs : 0 < m.sum := by rw [hm.2.2]; omega
  have e : gt ts ks m = ((List.range ts.length).map fun b => (ks.map fun l => gv ts l m b).sum).sum := sum_swap (fun l => gv ts l m) ks ts.length
  rw [e, ← begin_all m hs, ← hm.1]
  congr 1
  refine List.map_congr_left fun b hb => ?_
  have hbl : b < m.length := by rw [List.mem_range] at hb; exact hb
  unfold begin_
  by_cases h0 : 0 < m.getD b 0
  · rw [if_pos h0]
    have hd := hm.dec h0
    have e2 : (ks.map fun l => gv ts l m b) = ks.map fun l => if l = dec m b then rows 0 l else 0 := by
      refine List.map_congr_left fun l hl => ?_
      have hF := (hk l).mp hl
      unfold gv
      by_cases z : l = dec m b
      · subst z
        rw [if_pos rfl, if_pos]
        refine ⟨?_, inc_dec h0⟩
        have h2 := hm.2.1 b
        unfold dec
        rw [getD_set m b b _ hbl, if_pos rfl]
        omega
      · rw [if_neg z, if_neg]
        rintro ⟨_, z2⟩
        refine z ?_
        rw [← z2, dec_inc (by rw [hF.1, ← hm.1]; exact hbl)]
    rw [e2, sum_one (fun l => rows 0 l) (dec m b) nd, if_pos ((hk _).mpr hd)]
  · rw [if_neg h0]
    have e2 : (ks.map fun l => gv ts l m b) = ks.map fun _ => 0 := by
      refine List.map_congr_left fun l hl => ?_
      have hF := (hk l).mp hl
      unfold gv
      rw [if_neg]
      rintro ⟨_, z2⟩
      refine h0 ?_
      rw [← z2]
      unfold inc
      rw [getD_set l b b _ (by rw [hF.1, ← hm.1]; exact hbl), if_pos rfl]
      omega
    rw [e2]
    exact zeros_sum ks
theorem gs_zero {ts l m : List Nat} (h : ∀ b, l.getD b 0 < ts.getD b 0 → inc l b ≠ m) : ∀ k, gs ts l m k = 0
  | 0 => rfl
  | k + 1 => by
    rw [gs_next, gs_zero h k]
    unfold gv
    rw [if_neg]
    rintro ⟨a, b⟩
    exact h k a b
theorem gt_none {ts : List Nat} {ks : List (List Nat)} {i : Nat} {m : List Nat} (hk : ∀ l ∈ ks, Fl ts i l) (hm : ¬ Fl ts (i + 1) m) : gt ts ks m = 0 := by
  unfold gt
  have e : (ks.map fun l => gs ts l m ts.length) = ks.map fun _ => 0 := List.map_congr_left fun l hl => gs_zero (fun b hb (z : inc l b = m) => hm (by rw [← z]; exact (hk l hl).inc hb)) _
  rw [e]
  exact zeros_sum ks
/-! ### few rows on a floor -/
def enc : List Nat → Nat
  | [] => 0
  | t :: l => t + 10 * enc l
theorem enc_inj : ∀ {l m : List Nat}, l.length = m.length → (∀ t ∈ l, t < 10) → (∀ t ∈ m, t < 10) → enc l = enc m → l = m
  | [], [], _, _, _, _ => rfl
  | [], _ :: _, h, _, _, _ => by cases h
  | _ :: _, [], h, _, _, _ => by cases h
  | a :: l, b :: m, h, h1, h2, e => by
    have ha := h1 a (List.mem_cons_self ..)
    have hb := h2 b (List.mem_cons_self ..)
    have e' : a + 10 * enc l = b + 10 * enc m := e
    rw [enc_inj (l := l) (m := m) (Nat.succ.inj h) (fun t ht => h1 t (List.mem_cons_of_mem _ ht)) (fun t ht => h2 t (List.mem_cons_of_mem _ ht)) (by omega), show a = b by omega]
theorem enc_lt : ∀ {l : List Nat}, (∀ t ∈ l, t < 10) → enc l < 10 ^ l.length
  | [], _ => Nat.one_pos
  | a :: l, h => by
    have ha := h a (List.mem_cons_self ..)
    have ih := enc_lt (l := l) fun t ht => h t (List.mem_cons_of_mem _ ht)
    show a + 10 * enc l < 10 ^ (l.length + 1)
    rw [Nat.pow_succ]
    omega
theorem nodup_le : ∀ (n : Nat) {ks : List Nat}, ks.Nodup → (∀ x ∈ ks, x < n) → ks.length ≤ n
  | 0, ks, _, h => by
    cases ks with
    | nil => exact Nat.le_refl _
    | cons a ks => exact absurd (h a (List.mem_cons_self ..)) (Nat.not_lt_zero _)
  | n + 1, ks, nd, h => by
    have nd' : (ks.erase n).Nodup := nd.erase n
    have h' : ∀ x ∈ ks.erase n, x < n := fun x hx => by
      have h1 := h x (List.mem_of_mem_erase hx)
      have h2 : x ≠ n := fun e => by
        subst e
        exact (List.Nodup.not_mem_erase nd) hx
      omega
    have ih := nodup_le n nd' h'
    by_cases hn : n ∈ ks
    · rw [List.length_erase_of_mem hn] at ih
      omega
    · rw [List.erase_of_not_mem hn] at ih
      omega
theorem floor_few {ts : List Nat} {ks : List (List Nat)} (nd : ks.Nodup) (ht : ∀ t ∈ ts, t ≤ 9) (h4 : ts.length ≤ 4) (hk : ∀ l ∈ ks, ∃ i, Fl ts i l) : ks.length ≤ 10000 := by
  have sm : ∀ l ∈ ks, ∀ t ∈ l, t < 10 := fun l hl t htl => by
    obtain ⟨i, h1, h2, _⟩ := hk l hl
    obtain ⟨j, hj, rfl⟩ := List.mem_iff_getElem.mp htl
    have h3 := h2 j
    rw [List.getD_eq_getElem?_getD, List.getElem?_eq_getElem hj, List.getD_eq_getElem?_getD, List.getElem?_eq_getElem (by omega)] at h3
    have h5 := ht _ (List.getElem_mem (show j < ts.length by omega))
    have h6 : l[j] ≤ ts[j] := h3
    omega
  have nd2 : (ks.map enc).Nodup := by
    rw [List.Nodup, List.pairwise_map]
    refine List.Pairwise.imp_of_mem (fun {a b} ha hb hne e => ?_) nd
    obtain ⟨_, la, _⟩ := hk a ha
    obtain ⟨_, lb, _⟩ := hk b hb
    exact hne (enc_inj (la.trans lb.symm) (sm a ha) (sm b hb) e)
  have := nodup_le 10000 nd2 fun x hx => by
    obtain ⟨l, hl, rfl⟩ := List.mem_map.mp hx
    obtain ⟨_, l1, _⟩ := hk l hl
    have h1 := enc_lt (sm l hl)
    have h2 : 10 ^ l.length ≤ 10 ^ 4 := Nat.pow_le_pow_right (by decide) (by omega)
    have h3 : (10 : Nat) ^ 4 = 10000 := by decide
    omega
  rw [List.length_map] at this
  exact this
end As

/-! rules that the layer lacks: t * 1 of a tuple; a display of one pair whose key is a tuple -/
namespace L2
open PySem PySem.Spec PyProof.Rows
theorem as_mul1 (l : Addr) (items : Array Value) (n : Nat) (dd : Option Addr) (sl : Array (Option Value)) (u : Tok) (hne : items.isEmpty = false) :
    Meets (Builtin.«tuple.__mul__» ⟨[.ref l, .int 1 u], []⟩) (fun _ R s => s.heap.get? l = some { cls := .type "tuple", dict := dd, data := .seq items n, slots := sl } ∧ R (.ok (.ret (Value.ref l))) s) :=
  .of_wp fun prog w A R s h => by
    obtain ⟨hpk, g, d, tkk, osk⟩ := s
    obtain ⟨hlk, h⟩ := h
    have f1k := AutoSeq1.idx_int
    wp_walk using wpAny_loadPart' hlk
    repeat (first
      | (refine wpAny_ite_false (decide_eq_false (by decide)) ?_; wp_walk using wpAny_loadPart' hlk)
      | (refine wpAny_ite_true (decide_eq_true (by simp)) ?_; wp_walk using wpAny_loadPart' hlk))
    exact ⟨_, rfl, h⟩
def rRep1 (K : PySem.W.Frag) : R2 := fun x y H Q => ∃ l k xs, x = .ref l ∧ y = .int k ∧ SqT K H l xs ∧ xs ≠ [] ∧ 1 ≤ k ∧ k ≤ 1000 ∧ xs.length ≤ 1000 ∧ (k = 1 → Q (.ref l) H) ∧ (2 ≤ k → ∀ p, H p = none → Q (.ref p) (upd H p (.tup (List.replicate k.toNat xs).flatten)))
section
variable {X : Cx}
theorem op_rep1 : OpR X (binaryOp .Mult) (rRep1 X.K) := by
  intro pinsk s σ H x y v u Q Ik rxk ryk h
  obtain ⟨l, k, xs, rfl, rfl, hT, hne, h1, h2, hzk, qa, qb⟩ := h
  by_cases hk : k = 1
  · subst hk
    cases rxk
    obtain ⟨t, rfl⟩ := ryk
    obtain ⟨itsk, r, ⟨⟨cls, dd, data, sl⟩, ho, hc, n, hd⟩, hsk⟩ := Ik.tuple hT
    simp only at hc hd
    subst hc hd
    have hle : itsk.length = xs.length := r.length.symm
    have hi : itsk.toArray.isEmpty = false := by
      cases itsk with
      | nil => exact absurd (List.eq_nil_of_length_eq_zero hle.symm) hne
      | cons a b => rfl
    refine wpAny_binaryOp_repeat_ref (T := "tuple") (U := "int") (by decide) ⟨_, ho, rfl⟩ (fun s' => typeIs_int s' 1 t) noFill_tuple_mul F.fills_int_mul F.slot_int_rmul repeat_tuple F.slot_int_index.lookup
      (call_meets F.slot_int_rmul (typeIs_int s 1 t) F.entry_int_rmul (F.args_int_rmul_2 _ _) (int_rmul_tuple 1 t l itsk.toArray n dd sl)
        ⟨ho, rfl, ⟨_, ho, rfl⟩, call_meets F.slot_tuple_mul ⟨_, ho, rfl⟩ F.entry_tuple_mul (F.args_tuple_mul_2 _ _) (as_mul1 l itsk.toArray n dd sl t hi) ⟨ho, ?_⟩⟩)
    exact ⟨.ref l, H, Ik, rfl, qa rfl⟩
  · exact op_repT pinsk s σ H _ _ v u Q Ik rxk ryk ⟨l, k, xs, rfl, rfl, hT, hne, by omega, h2, hzk, qb (by omega)⟩
def qDispT (p : Addr) (Q : VK) : List (V × V) → Hp → Prop := fun ps H2 => H2 p = some (.dT []) ∧ ∃ b k y, ps = [(.ref b, y)] ∧ H2 b = some (.tup (k.map kV)) ∧ Q (.ref p) (upd H2 p (.dT [(k, y)]))
def tDispT (tk tv : TE) : TE := fun σ H Q => ∀ p, H p = none → tk σ (upd H p (.dT [])) fun x H1 => tv σ H1 fun y H2 => qDispT p Q [(x, y)] H2
theorem pe_dispT {k v : Expr} {tk tv : TE} {pos : Pos} (hu : X.A.units + 1 < cLine) (hk : PE X k tk) (hv : PE X v tv) : PE X (.Dict [some k] [v] pos) (tDispT tk tv) := by
  refine ⟨fun pinsk s σ H Q Ik q => ?_⟩
  have hn := Ik.hok.fresh (Nat.le_refl s.heap.objs.size)
  have I1k := Ik.laid (a := s.heap.objs.size) (o := .dT []) (h' := s.heap.push { cls := .type "dict", data := .dict #[] }) (t' := s.toks) (fun _ _ q => Heap.get?_push_of_some _ q) (Nat.le_refl _) (dt_empty s.heap Ik.big)
  have hlen := pairTrees_length [some k] [v] X.env pos rfl rfl
  rw [arm_eval_Dict, zip_pairTrees [some k] [v] X.env pos rfl rfl, dictDisplay_pairs _ (by intro z; rw [z] at hlen; cases hlen) (by rw [hlen]; show 1 < 17; decide)]
  refine wpAny_bind (wpAny_standAt (wpAny_bind ?_))
  unfold subDict
  refine wpAny_bind (wpAny_alloc ?_)
  refine wpAny_bind (wpAny_holding ?_)
  rw [if_pos (by rw [hlen]; show 1 ≤ 15; decide)]
  have run := (pps_cons (pos := pos) hk hv pps_nil).run pinsk { s with heap := s.heap.push { cls := .type "dict", data := .dict #[] } } σ _ (qDispT s.heap.objs.size Q) I1k (q _ hn)
  refine wpAny_bind (wpAny_mono run (fun vs s1k h1k => ?_) fun _ _ e => e)
  obtain ⟨ps, H2k, I2k, rel, ep, b, kk, y, rfl, eb, q2⟩ := h1k
  cases rel with
  | @cons _ pr _ tl h t =>
    cases t
    obtain ⟨w1k, w2k⟩ := pr
    obtain ⟨r1k, r2k⟩ := h
    cases (show w1k = Value.ref b from r1k)
    refine wpAny_holding ?_
    rw [List.forIn_cons]
    obtain ⟨z, hd, xs, relx, dd⟩ := dt_of I2k.hok ep
    cases relx
    refine wpAny_bind (wpAny_bind (wpAny_bind (wpAny_dictSet_heap (hsz := Nat.zero_le _) (show X.A.units < cLine by omega) (key_of I2k.hok eb) dd fun h' dd' hs => wpAny_pure ?_)))
    show wpAny _ _ (forIn [] PUnit.unit _) _ _ _
    rw [List.forIn_nil]
    refine wpAny_pure (wpAny_pure (wpAny_pure (wpAny_pure ⟨.ref s.heap.objs.size, _, ?_, rfl, q2⟩)))
    obtain ⟨q, es, ep', hq, h2, h3, h4, _, h5⟩ := dd'
    have nk : KT H2k [] [] := .nil
    refine d_write I2k (by rw [ep]; exact True.intro) hs ⟨q, hq⟩ ⟨by show 1 ≤ sizeLine; decide, hd, _, (nk.put kk eb r2k).keeps fun c ys ec => ?_, q, es, ep', hq, h2, h3, h4, h5⟩
    rw [upd_ne (ne_of ec ep (fun z => nomatch z))]
    exact ec
end
end L2
namespace As
open PySem PySem.Spec PyProof.Rows L2
/-! ### tuples -/
theorem slT_ok {K : PySem.W.Frag} {a : Addr} {H : Hp} {xs : List V} {lo hi : Option Int} {Q : VK} (ha : H a = some (.tup xs)) (q : ∀ c H', H' c = some (.tup (cutV xs lo hi)) → Same H H' → Q (.ref c) H') : rSlA K (.ref a) lo hi H Q := by
  refine ⟨a, xs, rfl, SqT.of ha, fun h => q a H ?_ (Same.refl _), fun _ p np => q p _ upd_same (same_new np)⟩
  unfold cutV
  rw [h.1, h.2, List.drop_zero, Nat.sub_zero, List.take_length]
  exact ha
theorem catT_ok {K : PySem.W.Frag} {a b : Addr} {H : Hp} {xs ys : List V} {Q : VK} (ha : H a = some (.tup xs)) (hb : H b = some (.tup ys)) (hl : xs.length + ys.length ≤ 100000) (q : ∀ c H', H' c = some (.tup (xs ++ ys)) → Same H H' → Q (.ref c) H') : rCatA K (.ref a) (.ref b) H Q := by
  refine ⟨a, b, xs, ys, rfl, rfl, SqT.of ha, SqT.of hb, sl_of hl, fun e => q b H ?_ (Same.refl _), fun _ e => q a H ?_ (Same.refl _), fun _ _ p np => q p _ upd_same (same_new np)⟩
  · rw [e, List.nil_append]; exact hb
  · rw [e, List.append_nil]; exact ha
/-! ### dicts of rows of turns -/
def kk (l : List Nat) : List Key := l.map fun (t : Nat) => (Sum.inl (t : Int) : Key)
def iv (l : List Nat) : List V := l.map fun (t : Nat) => V.int (t : Int)
theorem kk_iv (l : List Nat) : (kk l).map kV = iv l := by
  unfold kk iv
  rw [List.map_map]
  rfl
theorem kk_inj : ∀ {l m : List Nat}, kk l = kk m → l = m
  | [], [], _ => rfl
  | [], _ :: _, h => by cases h
  | _ :: _, [], h => by cases h
  | a :: l, b :: m, h => by
    have h1 := (List.cons.inj h).1
    have h2 := kk_inj (List.cons.inj h).2
    have h3 : (a : Int) = b := Sum.inl.inj h1
    rw [h2, show a = b by omega]
theorem iv_len (l : List Nat) : (iv l).length = l.length := List.length_map _
structure DM (kvs : List (List Key × V)) (ks : List (List Nat)) (F : List Nat → Nat) : Prop where
  keys : kvs.map (·.1) = ks.map kk
  nd : ks.Nodup
  mem : ∀ l, l ∈ ks ↔ F l ≠ 0
  val : ∀ l, valV kvs (kk l) = if F l = 0 then none else some (.int (F l : Nat))
theorem DM.nil : DM [] [] (fun _ => 0) := ⟨rfl, List.nodup_nil, fun l => by simp, fun l => rfl⟩
theorem DM.len {kvs : List (List Key × V)} {ks : List (List Nat)} {F : List Nat → Nat} (h : DM kvs ks F) : kvs.length = ks.length := by
  have := congrArg List.length h.keys
  rwa [List.length_map, List.length_map] at this
theorem DM.to {kvs : List (List Key × V)} {ks : List (List Nat)} {F G : List Nat → Nat} (h : DM kvs ks F) (e : ∀ l, F l = G l) : DM kvs ks G := by
  have : F = G := funext e
  rw [← this]
  exact h
theorem put_keys {kvs : List (List Key × V)} {k : List Key} {v y : V} (h : valV kvs k = some y) : (putK kvs k v).map (·.1) = kvs.map (·.1) := by
  unfold putK
  rw [valV_any, h, if_pos (show (some y).isSome = true from rfl), List.map_map]
  refine List.map_congr_left fun p _ => ?_
  show (if p.1 = k then (p.1, v) else p).1 = p.1
  split <;> rfl
theorem DM.put {kvs : List (List Key × V)} {ks : List (List Nat)} {F : List Nat → Nat} (h : DM kvs ks F) (m : List Nat) (v : Nat) (hv : v ≠ 0) : ∃ ks', DM (putK kvs (kk m) (.int (v : Int))) ks' (fun l => if l = m then v else F l) := by
  have hval : ∀ l, valV (putK kvs (kk m) (.int (v : Int))) (kk l) = if (if l = m then v else F l) = 0 then none else some (.int ((if l = m then v else F l : Nat) : Int)) := fun l => by
    rw [valV_put]
    by_cases e : l = m
    · subst e
      rw [if_pos rfl, if_pos rfl, if_neg hv]
    · rw [if_neg (fun z => e (kk_inj z)), if_neg e]
      exact h.val l
  by_cases hm : F m = 0
  · have hn : valV kvs (kk m) = none := by rw [h.val, if_pos hm]
    refine ⟨ks ++ [m], ?_, ?_, fun l => ?_, hval⟩
    · rw [putK_new _ hn, List.map_append, List.map_append, h.keys]
      rfl
    · rw [List.nodup_append]
      refine ⟨h.nd, by simp, fun a ha b hb e => ?_⟩
      rw [List.mem_singleton.mp hb] at e
      subst e
      exact (h.mem a).mp ha hm
    · rw [List.mem_append, h.mem, List.mem_singleton]
      by_cases e : l = m
      · subst e
        simp [hv]
      · simp [e]
  · have hn : valV kvs (kk m) = some (.int (F m : Nat)) := by rw [h.val, if_neg hm]
    refine ⟨ks, (put_keys hn).trans h.keys, h.nd, fun l => ?_, hval⟩
    rw [h.mem]
    by_cases e : l = m
    · subst e
      simp [hv, hm]
    · simp [e]
theorem inc_iv {l : List Nat} {k : Nat} (hk : k < l.length) : (iv l).take k ++ [V.int ((l[k] : Nat) + 1 : Int)] ++ (iv l).drop (k + 1) = iv (inc l k) := by
  unfold iv inc
  rw [← List.map_take, ← List.map_drop, List.getD_eq_getElem?_getD, List.getElem?_eq_getElem hk]
  show _ = (l.set k (l[k] + 1)).map _
  rw [List.set_eq_take_append_cons_drop, if_pos hk, List.map_append, List.map_cons, List.append_assoc]
  rfl
end As

namespace As
open PySem PySem.Spec PyProof.Rows L2
abbrev sWalked : Stmt := topS 33
abbrev nWalked : List Str := ["_law_turns", "_law_known", "_law_todo", "_law_step", "_law_later", "_law_left", "_law_k", "_law_more"]
theorem scWalked : FnScope nWalked ["_law_turns"] (defScope sWalked) := ⟨rfl, rfl, rfl, by decide +kernel, rfl, by decide +kernel, by decide +kernel⟩
def TK (H : Hp) (ks : List (List Nat)) (bs : List Addr) : Prop := Paired (fun l b => H b = some (.tup (iv l))) ks bs
theorem TK.mono {H H' : Hp} (e : Same H H') : ∀ {ks : List (List Nat)} {bs : List Addr}, TK H ks bs → TK H' ks bs := by
  intro ks bs h
  unfold TK at h ⊢
  induction h with
  | nil => exact .nil
  | cons h _ ih => exact .cons (e _ _ h) ih
theorem TK.get {H : Hp} {ks : List (List Nat)} {bs : List Addr} (h : TK H ks bs) : ∀ {j : Nat} {b : Addr}, bs[j]? = some b → ∃ l, ks[j]? = some l ∧ H b = some (.tup (iv l)) := by
  unfold TK at h
  induction h with
  | nil => intro j b hb; simp at hb
  | cons h _ ih =>
    intro j b hb
    cases j with
    | zero =>
      have e : _ = b := Option.some.inj hb
      subst e
      exact ⟨_, rfl, h⟩
    | succ j => exact ih (j := j) hb
theorem TK.of {H : Hp} : ∀ {kvs : List (List Key × V)} {bs : List Addr} {ks : List (List Nat)}, kvs.map (·.1) = ks.map kk → IsKeys H kvs bs → TK H ks bs := by
  intro kvs bs ks e h
  unfold IsKeys at h
  unfold TK
  induction h generalizing ks with
  | nil =>
    cases ks with
    | nil => exact .nil
    | cons _ _ => cases e
  | @cons p b ps bs h _ ih =>
    cases ks with
    | nil => cases e
    | cons l ks =>
      rw [List.map_cons, List.map_cons] at e
      obtain ⟨e1, e2⟩ := List.cons.inj e
      refine .cons ?_ (ih e2)
      rw [e1, kk_iv] at h
      exact h
theorem TK.length {H : Hp} {ks : List (List Nat)} {bs : List Addr} (h : TK H ks bs) : ks.length = bs.length := Paired.length h
theorem rep_iv (n : Nat) : (List.replicate n [V.int 0]).flatten = iv (List.replicate n 0) := by
  induction n with
  | zero => rfl
  | succ n ih =>
    rw [List.replicate_succ, List.flatten_cons, ih, List.replicate_succ]
    rfl
section
variable {P : Program} {w : World} {K : PySem.W.Frag} {mg : Str → Option Value} {base : Heap}
/-- (0,) * n -/
theorem zeros_ok {K : PySem.W.Frag} {c : Addr} {H : Hp} {n : Nat} {Q : VK} (hc : H c = some (.tup [.int 0])) (h1 : 1 ≤ n) (h2 : n ≤ 100) (q : ∀ b H', H' b = some (.tup (iv (List.replicate n 0))) → Same H H' → Q (.ref b) H') : rRep1 K (.ref c) (.int (n : Int)) H Q := by
  refine ⟨c, n, [.int 0], rfl, rfl, SqT.of hc, by simp, by omega, by omega, by show 1 ≤ 1000; decide, fun e => q c H ?_ (Same.refl _), fun _ p np => q p _ ?_ (same_new np)⟩
  · have : n = 1 := by omega
    subst this
    exact hc
  · rw [upd_same, Int.toNat_natCast, rep_iv]
def spWalked (K : PySem.W.Frag) : Sp := fun vs H Q _ => ∃ (a : Addr) (ts : List Nat), vs = [.ref a] ∧ H a = some (.lst (iv ts)) ∧ (∀ t ∈ ts, t ≤ 9) ∧ 1 ≤ ts.length ∧ ts.length ≤ 4 ∧ ∀ H', Same H H' → Q (.int (rows 0 ts : Nat)) H'
theorem iv_int (ts : List Nat) : iv ts = (ts.map fun (t : Nat) => (t : Int)).map V.int := by
  unfold iv
  rw [List.map_map]
  rfl
theorem iv_get {l : List Nat} {k : Nat} (hk : k < l.length) : (iv l)[k]? = some (.int (l[k] : Nat)) := by
  unfold iv
  rw [List.getElem?_map, List.getElem?_eq_getElem hk]
  rfl
theorem getD_at {l : List Nat} {k : Nat} (hk : k < l.length) : l.getD k 0 = l[k] := by
  rw [List.getD_eq_getElem?_getD, List.getElem?_eq_getElem hk]
  rfl
theorem ok_walked {f : Addr} {fd : FuncData} {k : Nat} (F : Fun K "_law_walked" "_law_walked" sWalked f fd) (M : Mg mg) : FnOk P w K mg base CX0 (k + 1) f fd ["_law_turns"] (spWalked K) := by
  refine F.ok scWalked (fun vs H Q E h => ?_) (fun cdv A outer s H vs Q E hr h => ?_)
  · obtain ⟨a, ts, rfl, _⟩ := h
    rfl
  · obtain ⟨a, ts, rfl, ha, t9, n1, n4, q⟩ := h
    have hu1 : (A.deeper (envOfC "_law_walked" (defScope sWalked) s.heap.objs.size f cdv)).units + 1 < cLine := by have := hr.un; omega
    refine ⟨_, pss_cons (ps_set (i := 1) scWalked.nd rfl (.inl rfl) (pe_dispT hu1 (pe_op op_rep1 (pe_tup (pa_cons pe_int pa_nil)) (pe_callB call_len_seq (by rfl) M.len PySem.boot_len (pa_cons (pv 0) pa_nil))) pe_int))
      (pss_cons (ps_set (i := 2) scWalked.nd rfl (.inl rfl) (pe_lst (pa_cons (pe_op op_rep1 (pe_tup (pa_cons pe_int pa_nil)) (pe_callB call_len_seq (by rfl) M.len PySem.boot_len (pa_cons (pv 0) pa_nil))) pa_nil)))
      (pss_cons (ps_for PassesOwn.never rfl (pi_range1 (by rfl) M.range (pa_cons (pe_callB (cr_sum rfl) (by rfl) M.sum (by decide +kernel) (pa_cons (pv 0) pa_nil)) pa_nil)) (pg_name (i := 3) scWalked.nd rfl (.inl rfl))
        (pss_cons (ps_set (i := 4) scWalked.nd rfl (.inl rfl) pe_dnewT)
        (pss_cons (ps_for PassesOwn.never rfl (pi_list (pv 2)) (pg_name (i := 5) scWalked.nd rfl (.inl rfl))
          (pss_one (ps_for PassesOwn.never rfl (pi_range1 (by rfl) M.range (pa_cons (pe_callB call_len_seq (by rfl) M.len PySem.boot_len (pa_cons (pv 0) pa_nil)) pa_nil)) (pg_name (i := 6) scWalked.nd rfl (.inl rfl))
            (pss_one (ps_if (pt_cmpR op_lt (pe_ix ix_tup (pv 5) (pv 6) (fun _ _ => rfl)) (pe_ix ix_list (pv 0) (pv 6) (fun _ _ => rfl)) (nomark _))
              (pss_cons (ps_set (i := 7) scWalked.nd rfl (.inl rfl) (pe_op op_catA (pe_op op_catA (pe_slice sl_tupA (pv 5) po_none (po_some (pv 6))) (pe_tup (pa_cons (pe_add (pe_ix ix_tup (pv 5) (pv 6) (fun _ _ => rfl)) pe_int) pa_nil))) (pe_slice sl_tupA (pv 5) (po_some (pe_add (pv 6) pe_int)) po_none)))
              (pss_one (ps_asg (pe_add (pe_dget2 hu1 (pv 4) (pv 7) pe_int ⟨rfl, by rfl, rfl, rfl⟩) (pe_dget hu1 (pv 1) (pv 5) (fun _ _ => rfl))) (pg_sub (pv 4) (pv 7) (set_dict hu1))))) pss_nil)))))
        (pss_cons (ps_set (i := 1) scWalked.nd rfl (.inl rfl) (pv 4))
        (pss_one (ps_set (i := 2) scWalked.nd rfl (.inl rfl) (pe_callTy (call_list_dT rfl) (by rfl) M.list (by decide +kernel) (pa_cons (pv 4) pa_nil))))))))
      (pss_one (ps_ret (pe_dget hu1 (pv 1) (pe_callTy call_tuple_of (by rfl) M.tuple (by decide +kernel) (pa_cons (pv 0) pa_nil)) (fun _ _ => rfl)))))), ?_⟩
    -- known
    refine fun pk npk => ⟨by show 1 ≤ sizeLine; decide, fun c nc => ⟨.ref a, rfl, a, _, rfl, .inl (SqL.of (Same.new (same_new npk) nc _ _ ha)), ?_⟩⟩
    rw [iv_len]
    have ncpk : pk ≠ c := ne_of_none upd_same nc
    refine zeros_ok upd_same n1 (by omega) fun b1 H1 hb1 s1 => ?_
    have hpk1 : H1 pk = some (.dT []) := s1 _ _ (by rw [upd_ne ncpk]; exact upd_same)
    refine ⟨hpk1, b1, kk (List.replicate ts.length 0), .int 1, rfl, by rw [kk_iv]; exact hb1, ?_⟩
    have sH1 : Same H H1 := Same.trans (Same.new (same_new npk) nc) s1
    have nb1 : b1 ≠ pk := ne_of hb1 hpk1 (fun z => nomatch z)
    have s2 : Same H (upd H1 pk (.dT [(kk (List.replicate ts.length 0), .int 1)])) := Same.mut sH1 npk
    obtain ⟨H2, hH2⟩ : ∃ X : Hp, X = upd H1 pk (.dT [(kk (List.replicate ts.length 0), .int 1)]) := ⟨_, rfl⟩
    have hpk2 : H2 pk = some (.dT [(kk (List.replicate ts.length 0), .int 1)]) := by rw [hH2]; exact upd_same
    rw [← hH2] at s2 ⊢
    clear hH2 hpk1 hb1 nb1 sH1 s1 ncpk nc
    -- todo
    refine ⟨by show 1 ≤ sizeLine; decide, fun c2 nc2 => ⟨.ref a, rfl, a, _, rfl, .inl (SqL.of (Same.new s2 nc2 _ _ ha)), ?_⟩⟩
    rw [iv_len]
    refine zeros_ok upd_same n1 (by omega) fun b2 H3 hb2 s3 => ⟨by show 1 ≤ sizeLine; decide, fun pt npt => ?_⟩
    have s23 : Same H2 (upd H3 pt (.lst [.ref b2])) := Same.trans (Same.trans (same_new nc2) s3) (same_new npt)
    have s03 : Same H (upd H3 pt (.lst [.ref b2])) := Same.trans s2 s23
    refine ⟨.ref a, rfl, a, _, rfl, SqL.of (by rw [← iv_int]; exact s03 _ _ ha), ?_⟩
    rw [sum_cast]
    have hs36 : ts.sum ≤ 36 := by
      have := sum_le (ts := ts) (m := 9) t9
      omega
    refine ⟨_, rfl, by omega, by omega, ?_⟩
    rw [Int.toNat_natCast]
    refine for_range (lo := 0) (fun i σ H' => ∃ (pk pt : Addr) (kvs : List (List Key × V)) (ks : List (List Nat)) (bs : List Addr) (G : List Nat → Nat) (y3 y4 y5 y6 y7 : Option V), σ = [some (.ref a), some (.ref pk), some (.ref pt), y3, y4, y5, y6, y7] ∧ Same H H' ∧ H' pk = some (.dT kvs) ∧ DM kvs ks G ∧ (∀ l, Fl ts i l → G l = rows 0 l) ∧ (∀ l, ¬ Fl ts i l → G l = 0) ∧ H' pt = some (.lst (bs.map V.ref)) ∧ TK H' ks bs)
      ⟨pk, pt, _, [List.replicate ts.length 0], [b2], (fun l => if l = List.replicate ts.length 0 then 1 else 0), none, none, none, none, none, rfl, s03, s23 _ _ hpk2, ?_, ?_, ?_, upd_same, .cons (same_new npt _ _ hb2) .nil⟩ (fun i σ H5 hi hP => ?_) (fun σ H5 hP => ?_)
    · obtain ⟨ks', h⟩ := DM.nil.put (List.replicate ts.length 0) 1 (by decide)
      have hk := h.keys
      have e1 : putK ([] : List (List Key × V)) (kk (List.replicate ts.length 0)) (.int ((1 : Nat) : Int)) = [(kk (List.replicate ts.length 0), .int 1)] := rfl
      rw [e1] at h hk
      have e2 : ks' = [List.replicate ts.length 0] := by
        match ks', hk with
        | [l], hk => rw [kk_inj (List.cons.inj hk).1]
        | [], hk => cases hk
        | _ :: _ :: _, hk => cases (List.cons.inj hk).2
      rw [← e2]
      exact h
    · intro l hl
      have e := Fl.first.mp hl
      show (if l = List.replicate ts.length 0 then 1 else 0) = rows 0 l
      rw [if_pos e, rows_zero hl.2.2]
    · intro l hl
      exact if_neg fun e => hl (Fl.first.mpr e)
    · obtain ⟨pk, pt, kvs, ks, bs, G, y3, y4, y5, y6, y7, rfl, e5, hk5, dm, g1, g0, ht5, tk5⟩ := hP
      have hkF : ∀ l, l ∈ ks ↔ Fl ts i l := fun l => by
        rw [dm.mem]
        constructor
        · intro h
          exact Classical.byContradiction fun z => h (g0 l z)
        · intro h
          rw [g1 l h]
          have := rows_pos l
          omega
      intro pl npl
      have e6 := same_new (o := .dT []) npl
      have ha5 := e5 _ _ ha
      refine ⟨.ref pt, rfl, pt, rfl, ⟨_, SqL.of (e6 _ _ ht5)⟩, ?_⟩
      refine for_list (xs := bs.map V.ref) (fun j σ H' => ∃ (kv2 : List (List Key × V)) (ks2 : List (List Nat)) (z5 z6 z7 : Option V), σ = [some (.ref a), some (.ref pk), some (.ref pt), some (.int (0 + (i : Int))), some (.ref pl), z5, z6, z7] ∧ Same H5 H' ∧ H' pl = some (.dT kv2) ∧ DM kv2 ks2 (fun m => gt ts (ks.take j) m))
        ⟨[], [], y5, y6, y7, rfl, e6, upd_same, DM.nil.to fun l => by rw [List.take_zero]; rfl⟩ (fun j σ H' _ hP => ?_) (fun j x σ H7 hx hP => ?_) (fun σ H7 hP => ?_)
      · obtain ⟨_, _, _, _, _, _, e, _⟩ := hP
        exact SqL.of (e _ _ ht5)
      · obtain ⟨kv2, ks2, z5, z6, z7, rfl, e7, hl7, dm2⟩ := hP
        rw [List.getElem?_map] at hx
        cases hb : bs[j]? with
        | none => rw [hb] at hx; cases hx
        | some b =>
        rw [hb] at hx
        have ex : V.ref b = x := Option.some.inj hx
        subst ex
        obtain ⟨l, hl, hbl⟩ := tk5.get hb
        have hlF := (hkF l).mp (List.mem_of_getElem? hl)
        have hll := hlF.1
        have etk : ks.take (j + 1) = ks.take j ++ [l] := by rw [List.take_add_one, hl]; rfl
        refine ⟨.ref a, rfl, a, _, rfl, .inl (SqL.of (e7 _ _ ha5)), ?_⟩
        rw [iv_len]
        refine ⟨_, rfl, by omega, by omega, ?_⟩
        rw [Int.toNat_natCast]
        refine for_range (lo := 0) (fun k σ H' => ∃ (kv3 : List (List Key × V)) (ks3 : List (List Nat)) (z6 z7 : Option V), σ = [some (.ref a), some (.ref pk), some (.ref pt), some (.int (0 + (i : Int))), some (.ref pl), some (.ref b), z6, z7] ∧ Same H5 H' ∧ H' pl = some (.dT kv3) ∧ DM kv3 ks3 (fun m => gt ts (ks.take j) m + gs ts l m k))
          ⟨kv2, ks2, z6, z7, rfl, e7, hl7, dm2⟩ (fun k σ H8 hk hP => ?_) (fun σ H8 hP => ?_)
        · obtain ⟨kv3, ks3, z6, z7, rfl, e8, hl8, dm3⟩ := hP
          have hkl : k < l.length := by omega
          have hb8 := e8 _ _ hbl
          have ha8 := e8 _ _ ha5
          rw [show (0 + (k : Int)) = (k : Int) by omega]
          refine ⟨.ref b, rfl, .int k, rfl, b, _, k, .int (l[k] : Nat), rfl, rfl, SqT.of hb8, atI_nat (iv_get hkl), .ref a, rfl, .int k, rfl, a, _, k, .int (ts[k] : Nat), rfl, rfl, SqL.of ha8, atI_nat (iv_get (by omega)), _, _, rfl, rfl, _, rfl, ite2 (fun e => ?_) (fun e => ?_)⟩
          · have hlt : l[k] < ts[k] := by have := of_decide_eq_true e; omega
            have hltD : l.getD k 0 < ts.getD k 0 := by rw [getD_at hkl, getD_at (show k < ts.length by omega)]; exact hlt
            refine ⟨.ref b, rfl, .int k, rfl, k, rfl, slT_ok hb8 fun c1 G1 hc1 t1 => ?_⟩
            rw [cut_to] at hc1
            refine ⟨.ref b, rfl, .int k, rfl, b, _, k, .int (l[k] : Nat), rfl, rfl, SqT.of (t1 _ _ hb8), atI_nat (iv_get hkl), _, 1, rfl, rfl, by show 1 ≤ sizeLine; decide, fun c2 m2 => ?_⟩
            have t2 := same_new (o := .tup [V.int ((l[k] : Nat) + 1 : Int)]) m2
            refine catT_ok (t2 _ _ hc1) upd_same (by rw [List.length_take, iv_len]; show min k l.length + 1 ≤ _; omega) fun c3 G3 hc3 t3 => ?_
            have t13 := Same.trans t1 (Same.trans t2 t3)
            refine ⟨.ref b, rfl, .int k, rfl, _, 1, rfl, rfl, _, rfl, noPart (slT_ok (t13 _ _ hb8) fun c4 G4 hc4 t4 => ?_)⟩
            rw [cut_from _ _ (by rw [iv_len]; exact hkl)] at hc4
            refine catT_ok (t4 _ _ hc3) hc4 (by rw [List.length_append, List.length_take, List.length_drop, iv_len]; show min k l.length + 1 + _ ≤ _; omega) fun c5 G5 hc5 t5 => ?_
            rw [inc_iv hkl, ← kk_iv] at hc5
            have t85 : Same H8 G5 := Same.trans t13 (Same.trans t4 t5)
            have hl9 := t85 _ _ hl8
            obtain ⟨m, hm⟩ : ∃ m, inc l k = m := ⟨_, rfl⟩
            rw [hm] at hc5
            have hv := dm3.val m
            have hvk : valV kvs (kk l) = some (.int (rows 0 l : Nat)) := by
              rw [dm.val l, g1 l hlF, if_neg]
              have := rows_pos l
              omega
            obtain ⟨o, ho⟩ : ∃ o, o = valV kv3 (kk m) := ⟨_, rfl⟩
            have hg : o.getD (.int 0) = .int ((gt ts (ks.take j) m + gs ts l m k : Nat) : Int) := by
              rw [ho, hv]
              by_cases z : gt ts (ks.take j) m + gs ts l m k = 0
              · rw [if_pos z, z]; rfl
              · rw [if_neg z]; rfl
            refine ⟨.ref pl, rfl, pl, rfl, .inr ⟨_, .inl hl9⟩, .ref c5, rfl, o, by rw [ho]; exact DGet.t hl9 hc5, .ref pk, rfl, .ref b, rfl, pk, .int (rows 0 l : Nat), rfl, by rw [← hvk]; exact DGet.t (t85 _ _ (e8 _ _ hk5)) (by rw [kk_iv]; exact t85 _ _ hb8), ?_⟩
            rw [hg]
            have few : ks3.length ≤ 10000 := floor_few dm3.nd t9 n4 fun m' hm' => ⟨i + 1, by
              have h0 := (dm3.mem m').mp hm'
              refine Classical.byContradiction fun z => h0 ?_
              rw [gt_none (ks := ks.take j) (fun l' hl' => (hkF l').mp (List.mem_of_mem_take hl')) z, gs_zero (fun bb hbb (zz : inc l bb = m') => z (by rw [← zz]; exact hlF.inc hbb))]⟩
            refine ⟨_, _, rfl, rfl, .ref pl, rfl, .ref c5, rfl, pl, _, rfl, DPut.t hl9 hc5 (sl_lt (by rw [dm3.len]; omega)), ?_⟩
            obtain ⟨ks4, dm4⟩ := dm3.put m (gt ts (ks.take j) m + gs ts l m k + rows 0 l) (by have := rows_pos l; omega)
            refine ⟨_, ks4, _, _, rfl, Same.mut (Same.trans e8 t85) npl, upd_same, dm4.to fun m' => ?_⟩
            show (if m' = m then _ else _) = _
            rw [gs_next]
            unfold gv
            by_cases z : m' = m
            · subst z
              rw [if_pos rfl, if_pos ⟨hltD, hm⟩]
              omega
            · rw [if_neg z, if_neg]
              · omega
              · rintro ⟨_, z2⟩
                exact z (z2.symm.trans hm)
          · have hnlt : ¬ l.getD k 0 < ts.getD k 0 := by
              rw [getD_at hkl, getD_at (show k < ts.length by omega)]
              intro z
              exact e (decide_eq_true (by omega))
            refine ⟨kv3, ks3, _, _, rfl, e8, hl8, dm3.to fun m' => ?_⟩
            rw [gs_next]
            unfold gv
            rw [if_neg (fun z => hnlt z.1)]
            rfl
        · obtain ⟨kv3, ks3, z6, z7, rfl, e8, hl8, dm3⟩ := hP
          exact ⟨kv3, ks3, _, z6, z7, rfl, e8, hl8, dm3.to fun m => by rw [etk, gt_snoc]⟩
      · obtain ⟨kv2, ks2, z5, z6, z7, rfl, e7, hl7, dm2⟩ := hP
        rw [List.length_map, ← tk5.length, List.take_length] at dm2
        refine ⟨.ref pl, rfl, .ref pl, rfl, pl, kv2, rfl, .inl hl7, fun p2 bs2 np2 hks => ?_⟩
        have t8 := same_new (o := .lst (bs2.map V.ref)) np2
        refine ⟨pl, p2, kv2, ks2, bs2, _, _, _, _, _, _, rfl, Same.trans e5 (Same.trans e7 t8), t8 _ _ hl7, dm2, fun l hl => gt_full dm.nd hkF hl, fun l hl => gt_none (fun l' hl' => (hkF l').mp hl') hl, upd_same, TK.mono t8 (TK.of dm2.keys hks)⟩
    · obtain ⟨pk, pt, kvs, ks, bs, G, y3, y4, y5, y6, y7, rfl, e5, hk5, dm, g1, g0, ht5, tk5⟩ := hP
      have hvk : valV kvs (kk ts) = some (.int (rows 0 ts : Nat)) := by
        rw [dm.val ts, g1 ts (Fl.last.mpr rfl), if_neg]
        have := rows_pos ts
        omega
      refine ⟨.ref pk, rfl, .ref a, rfl, a, _, rfl, .inl ⟨SqL.of (e5 _ _ ha), fun c nc => ?_⟩⟩
      have t6 := same_new (o := .tup (iv ts)) nc
      refine ⟨pk, .int (rows 0 ts : Nat), rfl, by rw [← hvk]; exact DGet.t (t6 _ _ hk5) (by rw [kk_iv]; exact upd_same), q _ (Same.trans e5 t6)⟩
end
end As

namespace As
open PySem PySem.Spec PyProof.Rows L2
theorem passX0 {P : Program} {w : World} {X : Cx} : Passes (L2.CX P w) X E0 := fun _ _ _ _ _ _ _ h => by
  obtain ⟨_, _, _, _, _, _, _, _, _, _, _, _, h⟩ := h
  exact h.elim
abbrev sRight : Stmt := topS 36
abbrev nRight : List Str := ["_law_well_here", "_law_large", "_law_many", "_law_dealings_here", "_law_turns", "_law_due", "_law_kept", "_law_found", "_law_plain", "_law_bad", "_law_dealing_here", "_law_k"]
abbrev scpIn : Scope := { kind := .function, names := [(".0", .local), ("_law_dealing_here", .local), ("tuple", .globalImplicit), ("range", .globalImplicit), ("len", .globalImplicit)], isGenerator := false, isCoroutine := false }
theorem scRight : FnScope nRight ["_law_well_here"] (defScope sRight) := ⟨rfl, rfl, rfl, by decide +kernel, rfl, by decide +kernel, by decide +kernel⟩
def plainOf (l : List Pr) : List Pr := (List.range l.length).map fun (k : Nat) => (wR, (k : Int))
theorem plain_len (l : List Pr) : (plainOf l).length = l.length := by
  unfold plainOf
  rw [List.length_map, List.length_range]
theorem plain_ok {l : List Pr} (h : okD l) : okD (plainOf l) := by
  obtain ⟨_, h1, h8, _⟩ := h
  refine ⟨fun p hp => ?_, by rw [plain_len]; exact h1, by rw [plain_len]; exact h8, follow_mk fun i p hp => ?_⟩
  · obtain ⟨k, hk, rfl⟩ := List.mem_map.mp hp
    rw [List.mem_range] at hk
    refine ⟨show wordB wR = true by decide +kernel, ?_⟩
    show (decide (0 ≤ (k : Int)) && decide ((k : Int) ≤ 100000000)) = true
    rw [decide_eq_true (by omega), decide_eq_true (by omega)]
    rfl
  · have hil : i < l.length := by
      have := (List.getElem?_eq_some_iff.mp hp).1
      rw [plain_len] at this
      exact this
    have ep : p = (wR, (i : Int)) := by
      unfold plainOf at hp
      rw [List.getElem?_map, List.getElem?_range hil] at hp
      exact (Option.some.inj hp).symm
    subst ep
    have no : ∀ z, (z, (i : Int)) ∉ (plainOf l).take i := fun z hz => by
      obtain ⟨j, hj, e⟩ := List.mem_take_iff_getElem.mp hz
      unfold plainOf at e
      rw [List.getElem_map, List.getElem_range] at e
      have := (Prod.mk.inj e).2
      omega
    unfold mayP
    rw [decide_eq_false (no _), decide_eq_false (no _)]
    rfl
theorem tn_plain (ls : List (List Pr)) : tnOf (ls.map plainOf) = tnOf ls := by
  unfold tnOf
  rw [List.map_map]
  refine List.map_congr_left fun l _ => ?_
  show (plainOf l).length + 1 = _
  rw [plain_len]
theorem tn_rev (ls : List (List Pr)) : rows 0 (tnOf ls.reverse) = rows 0 (tnOf ls) := by
  unfold tnOf
  rw [List.map_reverse]
  exact rows_perm (List.reverse_perm _)
theorem TDs.setAt {st : Addr} {H : Hp} {v : V} {d : D} (hv : TD st H v d) : ∀ {vs : List V} {ds : List D} (i : Nat), TDs st H vs ds → TDs st H (vs.set i v) (ds.set i d)
  | _, _, _, .nil => .nil
  | _, _, 0, .cons _ t => .cons hv t
  | _, _, i + 1, .cons h t => .cons h (TDs.setAt hv i t)
theorem deals_lay {ls : List (List Pr)} (h : ∀ l ∈ ls, okD l) : PyData.canLay0 (.list (ls.map dealP)) = true := by simp [PyData.canLay0, dealPs_lay h]
theorem deals_shaped {ls : List (List Pr)} (h : ∀ l ∈ ls, okD l) : SeqAt.shaped (.list (ls.map dealP)) = true := shaped_of (dealPs_lay h) (by have := dealPs_depth ls; omega)
theorem TD.dsDp {K : PySem.W.Frag} {st : Addr} {H : Hp} {v : V} {ls : List (List Pr)} (h : TD st H v (dsD ls)) : Dp K H v (.list (ls.map dealP)) := by
  cases h with
  | lst n h t => exact Dp.lst (SqL.of h) t.dealsDp
section
variable {P : Program} {w : World} {K : PySem.W.Frag} {mg : Str → Option Value} {base : Heap} {CA CS CW CO CN : Addr}
abbrev tabsOf (pL : Addr) : List (Addr × Str) := [(pL, Str.ofString "_law_right" ++ ".<locals>." ++ "<lambda>")]
def spRight (pL : Addr) : Sp := fun vs H Q _ => ∃ (st : Addr), vs = [.ref st] ∧ Well st H ∧ LamX.Tabs (tabsOf pL) H ∧ ∀ H', ExM st H H' → LamX.Tabs (tabsOf pL) H' → Q (.bl true) H'
theorem ok_right {f fR cL pL : Addr} {fdR : FuncData} {k : Nat} {oc kV doc pm ct : Value} {an od : Option Addr} {osl : Array (Option Value)} (lk : K.lookup f = some ⟨oc, od, .func (PySem.W.fnOf "_law_right" "_law_right" (defArgs sRight) (defBody sRight) (defScope sRight) .none kV doc pm an (.ref cL) ct), osl⟩) (hcd : PySem.W.codeIn K (.ref cL) "_law_right" = true)
    (FR : Fun K "_law_told" "_law_told" sTold fR fdR) (gR : mg "_law_told" = some (.ref fR)) (bR' : Binds K fdR ["_law_ask"] []) (TB : LamX.TabB base mg cL pL) (M : Mg mg) (T : Tl K mg CA CS CW CO CN) (KS : Ki K CS CA CS CW CO CN true false) (KO : Ki K CO CA CS CW CO CN false true)
    (Kdraw : Ok P w K mg base CX0 (k + 2) "_law_draw" ["_law_well_here", "_law_many"] spDraw) (Kdeal : Ok P w K mg base CX0 (k + 2) "_law_dealings" ["_law_well_here", "_law_many", "_law_most"] spDealings)
    (Kone : Ok P w K mg base CX0 (k + 2) "_law_one" ["_law_well_here", "_law_some"] spOne) (Kreck : Ok P w K mg base CX0 (k + 2) "_law_reckoned" ["_law_turns"] (spReck K)) (Kwalk : Ok P w K mg base CX0 (k + 2) "_law_walked" ["_law_turns"] (spWalked K))
    (Khow : Ok P w K mg base (L2.CX P w) k "how_many" ["dealings"] (spHow CS)) :
    FnOk P w K mg base CX0 (k + 3) f (PySem.W.fnOf "_law_right" "_law_right" (defArgs sRight) (defBody sRight) (defScope sRight) .none kV doc pm an (.ref cL) ct) ["_law_well_here"] (spRight pL) := by
  obtain ⟨f1, fd1, G1, g1, k1, b1⟩ := Kdraw.ex
  obtain ⟨f2, fd2, G2, g2, k2, b2⟩ := Kdeal.ex
  obtain ⟨f3, fd3, G3, g3, k3, b3⟩ := Kreck.ex
  obtain ⟨f4, fd4, G4, g4, k4, b4⟩ := Kwalk.ex
  obtain ⟨f5, fd5, G5, g5, k5, b5⟩ := Kone.ex
  obtain ⟨f6, fd6, G6, g6, k6, b6⟩ := Khow.ex
  obtain ⟨ocR, odR, kVR, docR, pmR, anR, cdR, ctR, oslR, rfl, lkR, hcR⟩ := FR.ex
  have kR := FR.kp
  have bR := bR'
  refine fn_of lk hcd scRight (fun vs H Q E h => ?_) (fun A outer s H vs Q E hr h => ?_)
  · obtain ⟨st, rfl, _⟩ := h
    rfl
  · obtain ⟨st, rfl, hW, tabs, q⟩ := h
    let Tb := tabsOf pL
    suffices hx : ∃ t, PSs (cxOf CX0 P w K mg base nRight "_law_right" (defScope sRight) f (.ref cL) A outer s H E).nox (defBody sRight) t ∧ t { nx := fun _ H' => Q .non H', rt := Q } (start nRight [.ref st]) H by
      obtain ⟨t, h1, h2⟩ := hx
      exact ⟨t, h1.nox, h2⟩
    have hrk : Room k (A.deeper (envOfC "_law_right" (defScope sRight) s.heap.objs.size f (.ref cL))) := hr.mono (by omega)
    refine ⟨_, pss_cons (ps_set (i := 1) scRight.nd rfl (.inl rfl) (pe_cmpR op_eq (pe_call G1 hr (by rfl) g1 k1 b1 .nil pass0 (pa_cons (pv 0) (pa_cons pe_int pa_nil))) pe_int (nomark _)))
      (pss_cons (ps_set (i := 2) scRight.nd rfl (.inl rfl) (pe_ix ix_list (pe_lst (pa_cons (pe_add pe_int (pe_call G1 hr (by rfl) g1 k1 b1 .nil pass0 (pa_cons (pv 0) (pa_cons pe_int pa_nil)))) (pa_cons (pe_add pe_int (pe_call G1 hr (by rfl) g1 k1 b1 .nil pass0 (pa_cons (pv 0) (pa_cons pe_int pa_nil)))) pa_nil))) (pe_callTy call_int1 (by rfl) M.int (by decide +kernel) (pa_cons (pv 1) pa_nil)) (fun _ _ => rfl)))
      (pss_cons (ps_set (i := 3) scRight.nd rfl (.inl rfl) (pe_call G2 hr (by rfl) g2 k2 b2 .nil pass0 (pa_cons (pv 0) (pa_cons (pv 2) (pa_cons (pe_ix ix_list (pe_lst (pa_cons pe_int (pa_cons pe_int pa_nil))) (pe_callTy call_int1 (by rfl) M.int (by decide +kernel) (pa_cons (pv 1) pa_nil)) (fun _ _ => rfl)) pa_nil)))))
      (pss_cons (ps_mid (ps_if (pt_cmpR op_eq (pe_call G1 hr (by rfl) g1 k1 b1 .nil pass0 (pa_cons (pv 0) (pa_cons pe_int pa_nil))) pe_int (nomark _)) (pss_one (ps_asg (pe_ix ix_list (pv 3) pe_int (fun _ _ => rfl)) (pg_sub (pv 3) (pe_un un_neg pe_int) set_list))) pss_nil))
      (pss_cons (ps_setLc (i := 4) (own := [("_law_dealing_here", 10)]) (g := gName 10) (tt := tYes) rfl scRight.nd rfl rfl (sw_true rfl rfl rfl (by decide +kernel)) (pi_list (pv 3)) (blkOk_by (own := [("_law_dealing_here", 10)]) (N := nRight) (sc := defScope sRight) (by decide +kernel)) (fun _ _ _ _ _ => pg_name (i := 10) scRight.nd rfl (Or.inl rfl)) (fun _ _ _ _ _ => pts_nil)
        (fun _ _ _ _ _ => pe_add (pe_callB (show CallR _ (.builtin "len") (fun xs H Q => ∃ p ys, xs = [.ref p] ∧ (SqL K H p ys ∨ SqT K H p ys) ∧ Q (.int ys.length) H) from call_len_seq) (by rfl) M.len PySem.boot_len (pa_cons (pv 10) pa_nil)) pe_int))
      (pss_cons (ps_mid (ps_set (i := 5) scRight.nd rfl (.inl rfl) (pe_ifExp (pt_val (pv 1)) (pe_call G3 hr (by rfl) g3 k3 b3 .nil pass0 (pa_cons (pv 4) pa_nil)) (pe_call G4 hr (by rfl) g4 k4 b4 .nil pass0 (pa_cons (pv 4) pa_nil)))))
      (pss_cons (ps_set (i := 6) scRight.nd rfl (.inl rfl) (pe_callTy call_list_of (by rfl) M.list (by decide +kernel) (pa_cons (pv 3) pa_nil)))
      (pss_cons (ps_set (i := 7) scRight.nd rfl (.inl rfl) (pe_call (E := E0) G6 hrk (by rfl) g6 k6 b6 .nil passX0 (pa_cons (pv 3) pa_nil)))
      (pss_cons (ps_if (PW.pt (pw_or (pt_cmpR op_ne (pv 7) (pv 5) (nomark _)) (pw_or (pt_val (pe_callB call_isi (by rfl) M.isinstance (by decide +kernel) (pa_cons (pv 7) (pa_cons (pe_bltn (v := .ty "bool") (by rfl) M.bool (by decide +kernel) rfl) pa_nil)))) (pw_or (pt_not (pt_val (pe_callB call_isi (by rfl) M.isinstance (by decide +kernel) (pa_cons (pv 7) (pa_cons (pe_bltn (v := .ty "int") (by rfl) M.int (by decide +kernel) rfl) pa_nil)))))
          (pw_or1 (pt_cmpR (op_neD hr.units) (pv 3) (pv 6) (nomark _))))))) (pss_one (ps_ret pe_bl)) pss_nil)
      (pss_cons (ps_if (PW.pt (pw_or (pt_cmpR op_ne (pe_call (E := E0) G6 hrk (by rfl) g6 k6 b6 .nil passX0 (pa_cons (pe_revL (pv 3)) pa_nil)) (pv 5) (nomark _)) (pw_or1 (pt_cmpR op_ne (pe_call (E := E0) G6 hrk (by rfl) g6 k6 b6 .nil passX0 (pa_cons (pv 3) pa_nil)) (pv 5) (nomark _))))) (pss_one (ps_ret pe_bl)) pss_nil)
      (pss_cons (ps_setLc (i := 8) (own := [("_law_dealing_here", 10)]) (g := gName 10) (tt := tYes) rfl scRight.nd rfl rfl (sw_true rfl rfl rfl (by decide +kernel)) (pi_list (pv 3)) (blkOk_by (own := [("_law_dealing_here", 10)]) (N := nRight) (sc := defScope sRight) (by decide +kernel)) (fun _ _ _ _ _ => pg_name (i := 10) scRight.nd rfl (Or.inl rfl)) (fun _ _ _ _ _ => pts_nil)
        (fun _ _ _ _ _ => pe_callTy (show CallR _ (.type "tuple") (fun xs H Q => ∃ p ys, xs = [.ref p] ∧ ((SqL K H p ys ∧ ∀ l, H l = none → Q (.ref l) (upd H l (.tup ys))) ∨ (SqT K H p ys ∧ Q (.ref p) H))) from call_tuple_of) (by rfl) M.tuple (by decide +kernel) (pa_cons (pe_lc (own := [("_law_k", 11)]) (g := gName 11) (tt := tYes) rfl scRight.nd (pi_range1 (by rfl) M.range (pa_cons (pe_callB (show CallR _ (.builtin "len") (fun xs H Q => ∃ p ys, xs = [.ref p] ∧ (SqL K H p ys ∨ SqT K H p ys) ∧ Q (.int ys.length) H) from call_len_seq) (by rfl) M.len PySem.boot_len (pa_cons (pv 10) pa_nil)) pa_nil))
          (blkOk_by (own := [("_law_k", 11)]) (N := nRight) (sc := scpIn) (by decide +kernel)) (fun _ _ _ _ _ => pg_name (i := 11) scRight.nd rfl (Or.inl rfl)) (fun _ _ _ _ _ => pts_nil) (fun _ _ _ _ _ => pe_tup (pa_cons pe_str (pa_cons (pv 11) pa_nil)))) pa_nil)))
      (pss_cons (ps_set (i := 9) scRight.nd rfl (.inr rfl) (pe_call G5 hr (by rfl) g5 k5 b5 .nil pass0 (pa_cons (pv 0) (pa_cons (pe_lst (pa_cons (pe_lst pa_nil) (pa_cons pe_non (pa_cons (pe_callTy call_tuple_of (by rfl) M.tuple (by decide +kernel) (pa_cons (pv 3) pa_nil)) (pa_cons (pe_op op_cat (pv 3) (pe_lst (pa_cons (pe_tup pa_nil) pa_nil)))
        (pa_cons (pe_op op_cat (pe_slice sl_list (pv 3) po_none (po_some pe_int)) (pe_lst (pa_cons pe_str pa_nil))) (pa_cons pe_int (pa_cons (pe_lst (pa_cons (pe_tup (pa_cons (pe_tup (pa_cons pe_str (pa_cons (pe_un un_neg pe_int) pa_nil))) pa_nil)) pa_nil)) pa_nil)))))))) pa_nil))))
      (pss_one (ps_ret (pe_and (pe_cmpR op_eq (pe_call (E := E0) G6 hrk (by rfl) g6 k6 b6 .nil passX0 (pa_cons (pv 8) pa_nil)) (pv 5) (nomark _)) (pe_one (pe_cmpR (op_eqD hr.units) (LamX.pe_lamcall (T := Tb) (TT := TTo CS CO) (a := "_law_ask") (k := k) (c := cL) (P := pL) (Ng := nTold) (t := fun E => tCall (spHow CS) [] E (tCons (tVar 9) tNil)) (by rfl) gR kR lkR hcR bR scTold rfl (.inl rfl) (told_gives12 T KS KO M) TB rfl (List.mem_singleton.mpr rfl) (fun p hp _ => by rw [List.mem_singleton.mp hp]; rfl) hr (LamX.lamS_by (sc := defScope sRight) (by decide +kernel)) rfl (fun _ _ _ _ _ => rfl) (fun A outer s H E f c2 hr2 => pe_call (E := E) G6 hr2 (by rfl) g6 k6 b6 .nil (passes_call (takes_of rfl rfl rfl rfl) (fun _ _ _ _ h => h)) (pa_cons (pv 9) pa_nil))) (pe_tup (pa_cons pe_str (pa_cons pe_non pa_nil))) (nomark _))))))))))))))))), ?_⟩
    -- large
    refine ⟨.ref st, rfl, st, 4, rfl, hW, by decide, by decide, fun r1 H1 r10 r11 W1 e1 => ⟨rfl, ?_⟩⟩
    obtain ⟨b, hb⟩ : ∃ b, decide (V.int r1 = V.int 0) = b := ⟨_, rfl⟩
    rw [hb]
    -- many
    refine ⟨.ref st, rfl, st, 4, rfl, W1, by decide, by decide, fun r2 H2 r20 r21 W2 e2 => ⟨1, r2, rfl, rfl, .ref st, rfl, st, 51, rfl, W2, by decide, by decide, fun r3 H3 r30 r31 W3 e3 => ⟨50, r3, rfl, rfl, by show 2 ≤ sizeLine; decide, fun c1 m1 => ?_⟩⟩⟩
    refine ⟨.bl b, rfl, .inr ⟨b, rfl, c1, _, _, .int (if b then 50 + r3 else 1 + r2), rfl, rfl, SqL.of upd_same, by cases b <;> rfl, ?_⟩⟩
    obtain ⟨n, hn, n1, n100, nb⟩ : ∃ n : Nat, (if b then 50 + r3 else 1 + r2) = (n : Int) ∧ 1 ≤ n ∧ n ≤ 100 ∧ (b = false → n ≤ 4) := by
      cases b
      · exact ⟨(1 + r2).toNat, by show 1 + r2 = _; omega, by omega, by omega, fun _ => by omega⟩
      · exact ⟨(50 + r3).toNat, by show 50 + r3 = _; omega, by omega, by omega, fun h => by cases h⟩
    rw [hn]
    have s4 := same_new (o := .lst [.int (1 + r2), .int (50 + r3)]) m1
    -- dealings
    refine ⟨.ref st, rfl, .int n, rfl, by show 2 ≤ sizeLine; decide, fun c2 m2 => ?_⟩
    have s5 := same_new (o := .lst [.int 4, .int 8]) m2
    refine ⟨.bl b, rfl, .inr ⟨b, rfl, c2, _, _, .int (if b then 8 else 4), rfl, rfl, SqL.of upd_same, by cases b <;> rfl, ?_⟩⟩
    have W5 := (W3.same s4).same s5
    have e05 : ExS st H _ := e1.trans (e2.trans (e3.trans (.of (Same.trans s4 s5))))
    refine ⟨st, n, (if b then 8 else 4), rfl, W5, n100, by cases b <;> decide, by cases b <;> decide, fun pd ls0 H6 td6 hls0 okl0 npd W6 e6 => ?_⟩
    have npdH : H pd = none := free_of e05 W5 npd
    have e06 := e05.trans e6
    clear s4 s5 m1 m2 npd e6 W5 e05 hn e1 e2 e3 W1 W2 W3
    -- the last one again the first one
    refine ⟨fun σ H' => ∃ ls : List (List Pr), σ = [some (.ref st), some (.bl b), some (.int n), some (.ref pd), none, none, none, none, none, none, none, none] ∧ TD st H' (.ref pd) (dsD ls) ∧ ls.length = n ∧ (∀ l ∈ ls, okD l) ∧ Well st H' ∧ ExS st H H', ?_, fun σ H7 hJ => ?_⟩
    · refine ⟨.ref st, rfl, st, 3, rfl, W6, by decide, by decide, fun r4 H7 r40 r41 W7 e7 => ⟨rfl, _, rfl, ite2 (fun _ => ?_) (fun _ => ?_)⟩⟩
      · have td7 := td6.mono e7
        cases td7 with
        | @lst _ xs _ nps hpd txs =>
        have hxl : xs.length = n := by rw [txs.length, List.length_map]; exact hls0
        have h0 : 0 < xs.length := by omega
        have h0l : 0 < ls0.length := by omega
        refine ⟨.ref pd, rfl, pd, xs, 0, xs[0], rfl, rfl, SqL.of hpd, atI_nat (j := 0) (List.getElem?_eq_getElem h0), .ref pd, rfl, 1, rfl, pd, xs, -1, n - 1, rfl, rfl, hpd, ?_, ?_⟩
        · unfold ixN
          rw [if_neg (by omega), if_pos (by omega)]
          congr 1
          omega
        · have t0 : TDs st H7 (xs.set (n - 1) xs[0]) ((ls0.set (n - 1) ls0[0]).map dlD) := by
            have tx0 : TD st H7 xs[0] (dlD ls0[0]) := by
              obtain ⟨d, hd, tdd⟩ := txs.get (List.getElem?_eq_getElem h0)
              rw [List.getElem?_map, List.getElem?_eq_getElem h0l] at hd
              rw [← Option.some.inj hd] at tdd
              exact tdd
            rw [List.map_set]
            exact TDs.setAt tx0 (n - 1) txs
          refine ⟨ls0.set (n - 1) ls0[0], rfl, .lst nps upd_same (t0.dealsT fun a ys na ha => ?_), by rw [List.length_set]; exact hls0, fun l hl => ?_, ?_, ?_⟩
          · rw [upd_ne (ne_of ha hpd (fun z => nomatch z))]
            exact ha
          · rcases List.mem_or_eq_of_mem_set hl with h | h
            · exact okl0 l h
            · rw [h]
              exact okl0 _ (List.getElem_mem _)
          · obtain ⟨x, y, z, h⟩ := W7
            exact ⟨x, y, z, by rw [upd_ne (Ne.symm nps)]; exact h⟩
          · intro a o na ha
            rw [upd_ne (ne_of_none ha npdH)]
            exact e7 _ _ na (e06 _ _ na ha)
      · exact ⟨ls0, rfl, td6.mono e7, hls0, okl0, W7, e06.trans e7⟩
    obtain ⟨ls, rfl, td7, hls, okl, W7, e7⟩ := hJ
    clear td6 W6 e06 okl0 hls0
    have are : areDealings (dsD ls) = true := dealings_yes okl (by omega) (by omega)
    have td7' := td7
    cases td7' with
    | @lst _ xs _ nps hpd txs =>
    have hxl : xs.length = ls.length := by rw [txs.length, List.length_map]
    -- turns
    refine ⟨.ref pd, rfl, pd, rfl, ⟨_, SqL.of hpd⟩, fun D1 hD1 => lc_kept (walk_list (xs := xs)) (fun _ => true) (fun i => .int (((ls.getD i []).length : Int) + 1)) hD1 (by omega) (fun H' e => SqL.of (e _ _ hpd)) (fun i x H2 H3 N R hi e2 y hN hR => ?_) (fun H8 e8 hL => ?_)⟩
    · obtain ⟨rfl, hx⟩ := y
      obtain ⟨d, hd, tdi⟩ := txs.get hx
      have hil : i < ls.length := by omega
      have ed : dlD ls[i] = d := by
        rw [List.getElem?_map, List.getElem?_eq_getElem hil] at hd
        exact Option.some.inj hd
      subst ed
      have eg : ls.getD i [] = ls[i] := by rw [List.getD_eq_getElem?_getD, List.getElem?_eq_getElem hil]; rfl
      simp only [eg] at hR
      cases tdi with
      | @tup b ys _ nb hb tb =>
      have hlb : ys.length = ls[i].length := by rw [tb.length, List.length_map]
      refine ⟨rfl, yesI ⟨.ref b, rfl, b, ys, rfl, .inr (SqT.of (e2 _ _ hb)), _, 1, rfl, rfl, ?_⟩⟩
      rw [hlb]
      exact hR trivial _ (Same.refl _)
    have hT : H8 D1 = some (.lst (iv (tnOf ls))) := by
      rw [hL, kept_all]
      congr 2
      unfold iv tnOf
      rw [hxl, List.map_map]
      have e : (List.range ls.length).map (fun i => ls.getD i []) = ls := map_range ls _ fun i x hx => by rw [List.getD_eq_getElem?_getD, hx]; rfl
      conv => rhs; rw [← e]
      rw [List.map_map]
      refine List.map_congr_left fun i _ => ?_
      show V.int _ = V.int _
      congr 1
    have t9 : ∀ t ∈ tnOf ls, 1 ≤ t ∧ t ≤ 9 := fun t ht => by
      obtain ⟨l, hl, rfl⟩ := List.mem_map.mp ht
      have := (okl l hl).2.2.1
      omega
    have htl : (tnOf ls).length = ls.length := by unfold tnOf; rw [List.length_map]
    -- due
    refine ⟨fun σ H' => σ = [some (.ref st), some (.bl b), some (.int n), some (.ref pd), some (.ref D1), some (.int (rows 0 (tnOf ls) : Nat)), none, none, none, none, none, none] ∧ Same H8 H', ?_, fun σ H9 hJ => ?_⟩
    · refine ⟨.bl b, rfl, _, rfl, ?_⟩
      cases b with
      | true => exact iteT ⟨.ref D1, rfl, D1, tnOf ls, rfl, SqL.of (by rw [← iv_int]; exact hT), t9, by omega, by omega, rfl, Same.refl _⟩
      | false =>
        have := nb rfl
        exact iteF ⟨.ref D1, rfl, D1, tnOf ls, rfl, hT, fun t ht => (t9 t ht).2, by omega, by omega, fun H' e' => ⟨rfl, e'⟩⟩
    obtain ⟨rfl, e9⟩ := hJ
    obtain ⟨R, hR⟩ : ∃ R : Nat, rows 0 (tnOf ls) = R := ⟨_, rfl⟩
    rw [hR]
    have s79 := Same.trans e8 e9
    have td9 := td7.mono (.of (st := st) s79)
    -- kept, found
    refine ⟨.ref pd, rfl, pd, xs, rfl, .inl (SqL.of (s79 _ _ hpd)), fun ck mk => ?_⟩
    have sk := same_new (o := .lst xs) mk
    have s7k := Same.trans s79 sk
    have nck : ck ≠ st := (W7.same s79).ne mk
    refine ⟨.ref pd, rfl, st, .ref pd, dsD ls, rfl, td7.mono (.of s7k), fun hf => (Bool.false_ne_true (hf.symm.trans are)).elim, fun ls' el _ H11 s11 => ?_⟩
    have el' := dsD_inj el
    subst el'
    rw [hR]
    have s7b := Same.trans s7k s11
    have tdb := td7.mono (.of (st := st) s7b)
    have tck : TD st H11 (.ref ck) (dsD ls) := .lst nck (s11 _ _ upd_same) ((txs.mono (.of s7k)).mono (.of s11))
    refine ⟨.int R, rfl, .int R, rfl, rfl, _, rfl, ?_⟩
    rw [show decide (V.int (R : Int) = V.int (R : Int)) = true from decide_eq_true rfl]
    refine iteF ⟨.int R, rfl, .int R, .ty "bool", _, _, _, rfl, .ty _, TD.ty (st := st) (.int _), kit_ty (kit_bool (.int _)), _, rfl, iteF ⟨.int R, rfl, .int R, .ty "int", _, _, _, rfl, .ty _, TD.ty (st := st) (.int _), kit_ty (kit_int (.int _)), _, rfl, iteF ⟨.ref pd, rfl, .ref ck, rfl, .list (ls.map dealP), .list (ls.map dealP), tdb.dsDp, tck.dsDp, deals_shaped okl, deals_shaped okl, _, rfl, ?_⟩⟩⟩
    rw [SeqAt.eqv_refl _ (deals_lay okl)]
    refine iteF ?_
    -- turned about
    refine ⟨.ref pd, rfl, pd, xs, rfl, SqL.of (s7b _ _ hpd), fun cr mr => ?_⟩
    have sr := same_new (o := .lst xs.reverse) mr
    have W11 := W7.same s7b
    refine ⟨st, .ref cr, dsD ls.reverse, rfl, .lst (W11.ne mr) upd_same (by rw [List.map_reverse]; exact ((txs.mono (.of s7b)).mono (.of sr)).rev), fun hf => (Bool.false_ne_true (hf.symm.trans (dealings_yes (fun l hl => okl l (List.mem_reverse.mp hl)) (by rw [List.length_reverse]; omega) (by rw [List.length_reverse]; omega)))).elim, fun ls' el _ H12 s12 => ?_⟩
    have el' := dsD_inj el
    subst el'
    rw [tn_rev, hR]
    have s7c := Same.trans s7b (Same.trans sr s12)
    refine ⟨.int R, rfl, rfl, _, rfl, ?_⟩
    rw [show decide (V.int (R : Int) = V.int (R : Int)) = true from decide_eq_true rfl]
    refine iteF ⟨.ref pd, rfl, st, .ref pd, dsD ls, rfl, td7.mono (.of s7c), fun hf => (Bool.false_ne_true (hf.symm.trans are)).elim, fun ls' el _ H13 s13 => ?_⟩
    have el' := dsD_inj el
    subst el'
    rw [hR]
    refine ⟨.int R, rfl, rfl, _, rfl, ?_⟩
    rw [show decide (V.int (R : Int) = V.int (R : Int)) = true from decide_eq_true rfl]
    refine iteF ?_
    have s7d := Same.trans s7c s13
    have W13 := W7.same s7d
    have hpdD := s7d _ _ hpd
    have txD := txs.mono (.of (st := st) s7d)
    clear sk mk s79 e8 e9 s11 s7b s7k s12 s7c sr mr td9 tdb tck hT hL hD1 W11 s13
    -- plain
    refine ⟨.ref pd, rfl, pd, rfl, ⟨_, SqL.of hpdD⟩, fun DP hDP => ?_⟩
    have nDP : DP ≠ st := W13.ne hDP
    refine lc_it (walk_list (xs := xs)) (fun i H' => ∃ vs, H' DP = some (.lst vs) ∧ TDs st H' vs (((ls.take i).map plainOf).map dlD) ∧ Same H13 H') ⟨[], upd_same, by rw [List.take_zero]; exact .nil, same_new hDP⟩ (fun i H' _ hP => ?_) (fun i x H2 H3 hi hP y => ?_) (fun H14 hP => ?_)
    · obtain ⟨_, _, _, e⟩ := hP
      exact SqL.of (e _ _ hpdD)
    · obtain ⟨vs, hvs, tvs, e2⟩ := hP
      obtain ⟨rfl, hx⟩ := y
      obtain ⟨d, hd, tdi⟩ := txD.get hx
      have hil : i < ls.length := by omega
      have ed : dlD ls[i] = d := by
        rw [List.getElem?_map, List.getElem?_eq_getElem hil] at hd
        exact Option.some.inj hd
      subst ed
      have okl' := okl _ (List.getElem_mem hil)
      cases tdi with
      | @tup c ys _ nc hc tc =>
      have hlc : ys.length = ls[i].length := by rw [tc.length, List.length_map]
      have hvl : vs.length ≤ 100 := by rw [tvs.length, List.length_map, List.length_map, List.length_take]; omega
      refine ⟨rfl, yesI ⟨.ref c, rfl, c, ys, rfl, .inr (SqT.of (e2 _ _ hc)), ?_⟩⟩
      rw [hlc]
      have h8 := okl'.2.2.1
      refine ⟨_, rfl, by omega, by omega, fun DQ hDQ => ?_⟩
      rw [Int.toNat_natCast]
      have W2' := W13.same e2
      have nDQ : DQ ≠ st := W2'.ne hDQ
      refine lc_it (walk_range (lo := 0) (n := ls[i].length)) (fun j H' => ∃ ws, H' DQ = some (.lst ws) ∧ TDs st H' ws (((plainOf ls[i]).take j).map stepD) ∧ Same H3 H') ⟨[], upd_same, by rw [List.take_zero]; exact .nil, same_new hDQ⟩ (fun _ _ _ _ => trivial) (fun j z H4 H5 hj hP hz => ?_) (fun H6 hP => ?_)
      · obtain ⟨ws, hws, tws, e4⟩ := hP
        obtain ⟨rfl, rfl⟩ := hz
        have hwl : ws.length ≤ 8 := by rw [tws.length, List.length_map, List.length_take, plain_len]; omega
        refine ⟨rfl, yesI ⟨_, rfl, by show 2 ≤ sizeLine; decide, fun ct mt => ?_⟩⟩
        have st4 := same_new (o := .tup [.str wR, .int (0 + (j : Int))]) mt
        refine ⟨ws, st4 _ _ hws, sl_lt (by omega), ws ++ [.ref ct], upd_same, ?_, Same.mut (Same.trans e4 st4) hDQ⟩
        have e5 : (plainOf ls[i]).take (j + 1) = (plainOf ls[i]).take j ++ [(wR, (j : Int))] := by
          rw [List.take_add_one]
          congr 1
          unfold plainOf
          rw [List.getElem?_map, List.getElem?_range hj]
          rfl
        rw [e5, List.map_append]
        have t5 : TDs st (upd H5 ct (.tup [.str wR, .int (0 + (j : Int))])) (ws ++ [.ref ct]) (((plainOf ls[i]).take j).map stepD ++ [stepD (wR, (j : Int))]) := by
          refine (tws.mono (.of st4)).append (.cons (.tup ((W2'.same e4).ne mt) upd_same (.cons (.str _) (.cons ?_ .nil))) .nil)
          show TD st _ (V.int (0 + (j : Int))) (.int (j : Int))
          rw [Int.zero_add]
          exact .int _
        have t6 : TDs st (upd H5 ct (.tup [.str wR, .int (0 + (j : Int))])) (ws ++ [.ref ct]) (((plainOf ls[i]).take j ++ [(wR, (j : Int))]).map stepD) := by
          rw [List.map_append]
          exact t5
        have t7 := t6.stepsT (H' := upd (upd H5 ct (.tup [.str wR, .int (0 + (j : Int))])) DQ (.lst (ws ++ [.ref ct]))) fun a ys na ha => by
          rw [upd_ne (ne_of ha (st4 _ _ hws) (fun z => nomatch z))]
          exact ha
        rw [List.map_append] at t7
        exact t7
      · obtain ⟨ws, hws, tws, e6⟩ := hP
        rw [List.take_of_length_le (by rw [plain_len]; exact Nat.le_refl _)] at tws
        refine ⟨DQ, ws, rfl, .inl ⟨SqL.of hws, fun ct mt => ?_⟩⟩
        have st6 := same_new (o := .tup ws) mt
        have e26 := Same.trans e6 st6
        refine ⟨vs, e26 _ _ hvs, sl_lt (by omega), vs ++ [.ref ct], upd_same, ?_, Same.mut (Same.trans e2 e26) hDP⟩
        have e5 : ls.take (i + 1) = ls.take i ++ [ls[i]] := by
          rw [List.take_add_one, List.getElem?_eq_getElem hil]
          rfl
        rw [e5, List.map_append]
        have t6 : TDs st (upd H6 ct (.tup ws)) (vs ++ [.ref ct]) (((ls.take i).map plainOf ++ [ls[i]].map plainOf).map dlD) := by
          rw [List.map_append]
          exact ((tvs.mono (.of e26))).append (.cons (.tup ((W2'.same e6).ne mt) upd_same (tws.mono (.of st6))) .nil)
        refine t6.dealsT fun a ys na ha => ?_
        rw [upd_ne (ne_of ha (e26 _ _ hvs) (fun z => nomatch z))]
        exact ha
    obtain ⟨vs, hvs, tvs, e14⟩ := hP
    rw [hxl, List.take_length] at tvs
    have W14 := W13.same e14
    have e07 : ExS st H H14 := e7.trans (.of (Same.trans s7d e14))
    have tdP : TD st H14 (.ref DP) (dsD (ls.map plainOf)) := .lst nDP hvs tvs
    have txE := txD.mono (.of (st := st) e14)
    have hpdE := e14 _ _ hpdD
    have tbE := tabs_well hW e07 tabs
    clear hpdD txD s7d e14 W13 hDP tvs e7
    -- what are no dealings
    refine ⟨.ref st, rfl, Nat.zero_le _, fun c1 m1 => ?_⟩
    have s1 := same_new (o := .lst []) m1
    have V1 := W14.same s1
    refine ⟨.ref pd, rfl, pd, _, rfl, .inl ⟨SqL.of (s1 _ _ hpdE), fun c2 m2 => ?_⟩⟩
    have s2 := same_new (o := .tup xs) m2
    have V2 := V1.same s2
    refine ⟨.ref pd, rfl, Nat.zero_le _, fun c3 m3 => ?_⟩
    have s3 := same_new (o := .tup []) m3
    have V3 := V2.same s3
    refine ⟨by show 1 ≤ sizeLine; decide, fun c4 m4 => ?_⟩
    have s4 := same_new (o := .lst [.ref c3]) m4
    have V4 := V3.same s4
    have s14 := Same.trans s1 (Same.trans s2 (Same.trans s3 s4))
    refine ⟨pd, c4, _, _, rfl, rfl, s14 _ _ hpdE, upd_same, sl_of (by show xs.length + 1 ≤ _; omega), fun c5 m5 => ?_⟩
    have s5 := same_new (o := .lst (xs ++ [.ref c3])) m5
    have V5 := V4.same s5
    have s15 := Same.trans s14 s5
    refine ⟨.ref pd, rfl, 3, rfl, pd, xs, rfl, SqL.of (s15 _ _ hpdE), fun c6 m6 => ?_⟩
    rw [show cutV xs none (some 3) = xs.take 3 from cut_to xs 3]
    have s6 := same_new (o := .lst (xs.take 3)) m6
    have V6 := V5.same s6
    refine ⟨by show 1 ≤ sizeLine; decide, fun c7 m7 => ?_⟩
    have s7 := same_new (o := .lst [.str "r0"]) m7
    have V7 := V6.same s7
    refine ⟨c6, c7, _, _, rfl, rfl, s7 _ _ upd_same, upd_same, sl_of (by rw [List.length_take]; show _ + 1 ≤ _; omega), fun c8 m8 => ?_⟩
    have s8 := same_new (o := .lst (xs.take 3 ++ [.str "r0"])) m8
    have V8 := V7.same s8
    refine ⟨1, rfl, by show 2 ≤ sizeLine; decide, fun c9 m9 => ?_⟩
    have s9 := same_new (o := .tup [.str wR, .int (-1)]) m9
    have V9 := V8.same s9
    refine ⟨by show 1 ≤ sizeLine; decide, fun cA mA => ?_⟩
    have sA := same_new (o := .tup [.ref c9]) mA
    have VA := V9.same sA
    refine ⟨by show 1 ≤ sizeLine; decide, fun cB mB => ?_⟩
    have sB := same_new (o := .lst [.ref cA]) mB
    have VB := VA.same sB
    refine ⟨by show 7 ≤ sizeLine; decide, fun o mo => ?_⟩
    have so := same_new (o := .lst [.ref c1, .non, .ref c2, .ref c5, .ref c8, .int 5, .ref cB]) mo
    have VO := VB.same so
    have pB := so
    have pA := Same.trans sB pB
    have p9 := Same.trans sA pA
    have p8 := Same.trans s9 p9
    have p7 := Same.trans s8 p8
    have p6 := Same.trans s7 p7
    have p5 := Same.trans s6 p6
    have p4 := Same.trans s5 p5
    have p3 := Same.trans s4 p4
    have p2 := Same.trans s3 p3
    have p1 := Same.trans s2 p2
    have p0 := Same.trans s1 p1
    have txO := txE.mono (.of (st := st) p0)
    refine ⟨st, o, _, [.lst [], .non, .tup (ls.map dlD), .lst (ls.map dlD ++ [.tup []]), .lst ((ls.map dlD).take 3 ++ [.str "r0"]), .int 5, .lst [.tup [.tup [.str wR, .int (-1)]]]], rfl, VO, VB.ne mo, upd_same,
      .cons (.lst (W14.ne m1) (p1 _ _ upd_same) .nil) (.cons .non (.cons (.tup (V1.ne m2) (p2 _ _ upd_same) txO) (.cons (.lst (V4.ne m5) (p5 _ _ upd_same) (txO.append (.cons (.tup (V2.ne m3) (p3 _ _ upd_same) .nil) .nil))) (.cons (.lst (V7.ne m8) (p8 _ _ upd_same) ((txO.take 3).append (.cons (.str _) .nil))) (.cons (.int _) (.cons (.lst (VA.ne mB) (pB _ _ upd_same) (.cons (.tup (V9.ne mA) (pA _ _ upd_same) (.cons (.tup (V8.ne m9) (p9 _ _ upd_same) (.cons (.str _) (.cons (.int _) .nil))) .nil)) .nil)) .nil)))))), by show 1 ≤ 7; decide, by show 7 ≤ 1000; decide, fun vB dB HB tB mB' WB eB => ?_⟩
    have noB : areDealings dB = false := by
      simp only [List.mem_cons, List.not_mem_nil, or_false] at mB'
      rcases mB' with rfl | rfl | rfl | rfl | rfl | rfl | rfl
      · rfl
      · rfl
      · rfl
      · exact noDeals (List.mem_append_right _ (List.mem_singleton.mpr rfl)) rfl
      · exact noDeals (List.mem_append_right _ (List.mem_singleton.mpr rfl)) rfl
      · rfl
      · exact noDeals (List.mem_singleton.mpr rfl) (by decide +kernel)
    have eBM : ExS st H14 HB := (ExS.of p0).trans eB
    have tbB := tabs_well VO eB (tbE.ext p0)
    have tdPB := tdP.mono eBM
    -- the plain ones
    refine ⟨.ref DP, rfl, st, .ref DP, dsD (ls.map plainOf), rfl, tdPB, fun hf => (Bool.false_ne_true (hf.symm.trans (dealings_yes (fun l hl => ?_) (by rw [List.length_map]; omega) (by rw [List.length_map]; omega)))).elim, fun ls' el _ HC sC => ?_⟩
    · obtain ⟨l', hl', rfl⟩ := List.mem_map.mp hl
      exact plain_ok (okl l' hl')
    have el' := dsD_inj el
    subst el'
    rw [tn_plain, hR]
    refine ⟨.int R, rfl, rfl, ?_⟩
    rw [show decide (V.int (R : Int) = V.int (R : Int)) = true from decide_eq_true rfl]
    refine ⟨_, rfl, iteT ?_⟩
    -- the ask
    refine ⟨tbB.ext sC, fun G1 g1' t1 => ⟨vB, rfl, st, vB, dB, rfl, (tB.mono (.of sC)).monoM (.ofN g1'), fun _ G2 s2 => ⟨rfl, .inl ⟨rfl, fun p1 G3 np1 s3 hp1 => ?_⟩⟩, fun _ _ hf => (Bool.false_ne_true (noB.symm.trans hf)).elim⟩⟩
    refine ⟨by show 2 ≤ sizeLine; decide, fun p2 np2 => ?_⟩
    have s4 := same_new (o := .tup [.str "dealings", .non]) np2
    refine ⟨.tuple [.str "dealings", .none], .tuple [.str "dealings", .none], .tup (SqT.of (s4 _ _ hp1)) (.cons (.str _) (.cons .non .nil)), .tup (SqT.of upd_same) (.cons (.str _) (.cons .non .nil)), by decide +kernel, by decide +kernel, ?_⟩
    rw [SeqAt.eqv_refl _ (by decide +kernel)]
    have sE := Same.trans s2 (Same.trans s3 s4)
    exact q _ ((ExM.ofS (e07.trans (eBM.trans (.of sC)))).trans ((ExM.ofN g1').trans (ExM.same sE))) (t1.ext sE)
end
end As

namespace As
open PySem PySem.Spec PyProof.Rows L2
abbrev sLaw : Stmt := topS 37
theorem scLaw : FnScope ["_law_script", "_law_cell"] ["_law_script"] (defScope sLaw) := ⟨rfl, rfl, rfl, by decide +kernel, rfl, by decide +kernel, by decide +kernel⟩
theorem cut_ints (ns : List Int) (lo hi : Option Int) : ∃ ms : List Int, cutV (ns.map V.int) lo hi = ms.map V.int ∧ ms.length ≤ ns.length := by
  unfold cutV
  rw [← List.map_drop, ← List.map_take]
  refine ⟨_, rfl, ?_⟩
  rw [List.length_take, List.length_drop]
  omega
section
variable {P : Program} {w : World} {K : PySem.W.Frag} {mg : Str → Option Value} {base : Heap}
def spLaw (K : PySem.W.Frag) (pL : Addr) : Sp := fun vs H Q _ => ∃ (a : Addr) (ns : List Int), vs = [.ref a] ∧ SqL K H a (ns.map V.int) ∧ ns.length ≤ 63 ∧ LamX.Tabs (tabsOf pL) H ∧ ∀ H', Q (.bl true) H'
theorem ok_law {f f1 f2 f3 pL : Addr} {fd fd1 fd2 fd3 : FuncData} {k : Nat} (F : Fun K "law" "law" sLaw f fd) (M : Mg mg) (G1 : FnOk P w K mg base CX0 k f1 fd1 ["_law_script", "_law_k"] (spCellAt K)) (g1 : mg "_law_cell_at" = some (.ref f1)) (k1 : PySem.W.keepIn K (.ref f1) = true) (b1 : Binds K fd1 ["_law_script", "_law_k"] [])
    (G2 : FnOk P w K mg base CX0 k f2 fd2 ["_law_cell"] spWell) (g2 : mg "_law_well" = some (.ref f2)) (k2 : PySem.W.keepIn K (.ref f2) = true) (b2 : Binds K fd2 ["_law_cell"] [])
    (G3 : FnOk P w K mg base CX0 k f3 fd3 ["_law_well_here"] (spRight pL)) (g3 : mg "_law_right" = some (.ref f3)) (k3 : PySem.W.keepIn K (.ref f3) = true) (b3 : Binds K fd3 ["_law_well_here"] []) :
    FnOk P w K mg base CX0 (k + 1) f fd ["_law_script"] (spLaw K pL) := by
  refine F.ok scLaw (fun vs H Q E h => ?_) (fun cdv A outer s H vs Q E hr h => ?_)
  · obtain ⟨a, ns, rfl, _⟩ := h
    rfl
  · obtain ⟨a, ns, rfl, hS, h63, tabs, q⟩ := h
    refine ⟨_, pss_cons (ps_for PassesOwn.never rfl (pi_list (pe_op op_cat (pe_lst (pa_cons (pe_call G1 hr (by rfl) g1 k1 b1 .nil pass0 (pa_cons (pv 0) (pa_cons pe_int pa_nil))) pa_nil)) (pe_slice sl_list (pv 0) (po_some pe_int) (po_some pe_int)))) (pg_name (i := 1) scLaw.nd rfl (.inl rfl))
        (pss_one (ps_if (pt_not (pt_val (pe_call G3 hr (by rfl) g3 k3 b3 .nil pass0 (pa_cons (pe_call G2 hr (by rfl) g2 k2 b2 .nil pass0 (pa_cons (pv 1) pa_nil)) pa_nil)))) (pss_one (ps_ret pe_bl)) pss_nil)))
      (pss_one (ps_ret pe_bl)), ?_⟩
    refine ⟨.ref a, rfl, a, 0, ns, rfl, hS, fun z => ⟨by show 1 ≤ sizeLine; decide, fun c1 m1 => ?_⟩⟩
    have s1 := same_new (o := .lst [.int z]) m1
    obtain ⟨ms, hms, hml⟩ := cut_ints ns (some 1) (some 8)
    refine ⟨.ref a, rfl, 1, rfl, 8, rfl, a, _, rfl, s1.seq hS, fun c2 m2 => ?_⟩
    rw [hms]
    have s2 := same_new (o := .lst (ms.map V.int)) m2
    refine ⟨c1, c2, _, _, rfl, rfl, s2 _ _ upd_same, upd_same, sl_of (by rw [List.length_map]; show 1 + ms.length ≤ _; omega), fun c3 m3 => ?_⟩
    have s3 := same_new (o := .lst ([.int z] ++ ms.map V.int)) m3
    have s13 := Same.trans s1 (Same.trans s2 s3)
    refine ⟨c3, rfl, ⟨_, SqL.of upd_same⟩, ?_⟩
    refine for_list (xs := [.int z] ++ ms.map V.int) (fun i σ H' => ∃ y1, σ = [some (.ref a), y1] ∧ H' c3 = some (.lst ([.int z] ++ ms.map V.int)) ∧ LamX.Tabs (tabsOf pL) H') ⟨none, rfl, upd_same, tabs.ext s13⟩ (fun i σ H' _ hP => ?_) (fun i x σ H4 hx hP => ?_) (fun σ H4 hP => q H4)
    · obtain ⟨_, _, h, _⟩ := hP
      exact SqL.of h
    · obtain ⟨y1, rfl, h4, t4⟩ := hP
      obtain ⟨m, rfl⟩ : ∃ m : Int, x = .int m := by
        have hm := List.mem_of_getElem? hx
        rw [show [V.int z] ++ ms.map V.int = (z :: ms).map V.int from rfl, List.mem_map] at hm
        obtain ⟨m, _, e⟩ := hm
        exact ⟨m, e.symm⟩
      refine ⟨.int m, rfl, m, rfl, fun p y z' np => ⟨p, rfl, ⟨_, _, _, upd_same⟩, t4.ext (same_new np), fun H5 e5 t5 => ⟨_, rfl, iteF ?_⟩⟩⟩
      have n3 : c3 ≠ p := ne_of_none h4 np
      exact ⟨_, rfl, e5.lst n3 (by rw [upd_ne n3]; exact h4), t5⟩
end
end As

namespace As
open PySem PySem.Spec PyProof.Rows L2
/-! ### what the top has written; the end -/
theorem all_mk {l : PySem.W.OpenLaw} {w : World} {K : PySem.W.Frag} {h : Heap} {mg : Str → Option Value} {fa : Addr} (X : K.In h) (G : h.Ns mainGlobals mg) (hfa : mg "law" = some (.ref fa))
    {f1 f2 f3 f4 f5 f6 f7 f8 f9 f10 f11 f12 f13 f14 f15 f16 f17 f18 f19 f20 f21 f22 f23 f24 CA CS CW CO CN cL pL : Addr} {od1 an1 od2 an2 od3 an3 od4 an4 od5 an5 od6 an6 od7 an7 od8 an8 od9 an9 od10 an10 od11 an11 od12 an12 od13 an13 od14 an14 od15 an15 od16 an16 od17 an17 od18 an18 od19 an19 od20 an20 od21 an21 od22 an22 od23 an23 od24 an24 : Option Addr} {sl1 sl2 sl3 sl4 sl5 sl6 sl7 sl8 sl9 sl10 sl11 sl12 sl13 sl14 sl15 sl16 sl17 sl18 sl19 sl20 sl21 sl22 sl23 sl24 : Array (Option Value)} {oc1 kV1 dc1 pm1 ct1 cd1 oc2 kV2 dc2 pm2 ct2 cd2 oc3 kV3 dc3 pm3 ct3 cd3 oc4 kV4 dc4 pm4 ct4 cd4 oc5 kV5 dc5 pm5 ct5 cd5 oc6 kV6 dc6 pm6 ct6 cd6 oc7 kV7 dc7 pm7 ct7 cd7 oc8 kV8 dc8 pm8 ct8 cd8 oc9 kV9 dc9 pm9 ct9 cd9 oc10 kV10 dc10 pm10 ct10 cd10 oc11 kV11 dc11 pm11 ct11 cd11 oc12 kV12 dc12 pm12 ct12 cd12 oc13 kV13 dc13 pm13 ct13 cd13 oc14 kV14 dc14 pm14 ct14 cd14 oc15 kV15 dc15 pm15 ct15 cd15 oc16 kV16 dc16 pm16 ct16 cd16 oc17 kV17 dc17 pm17 ct17 cd17 oc18 kV18 dc18 pm18 ct18 cd18 oc19 kV19 dc19 pm19 ct19 cd19 oc20 kV20 dc20 pm20 ct20 cd20 oc21 kV21 dc21 pm21 ct21 cd21 oc22 kV22 dc22 pm22 ct22 cd22 oc23 kV23 dc23 pm23 ct23 oc24 kV24 dc24 pm24 ct24 cd24 : Value} {t1 t2 t3 : Tok}
    (a1 : PySem.W.nsIn K mainGlobals "is_whole" = some (some (.ref f1))) (l1 : K.lookup f1 = some ⟨oc1, od1, .func (PySem.W.fnOf "is_whole" "is_whole" (defArgs sIsWhole) (defBody sIsWhole) (defScope sIsWhole) .none kV1 dc1 pm1 an1 cd1 ct1), sl1⟩) (c1 : PySem.W.codeIn K cd1 "is_whole" = true) (k1 : PySem.W.keepIn K (.ref f1) = true)
    (a2 : PySem.W.nsIn K mainGlobals "is_number" = some (some (.ref f2))) (l2 : K.lookup f2 = some ⟨oc2, od2, .func (PySem.W.fnOf "is_number" "is_number" (defArgs sIsNumber) (defBody sIsNumber) (defScope sIsNumber) .none kV2 dc2 pm2 an2 cd2 ct2), sl2⟩) (c2 : PySem.W.codeIn K cd2 "is_number" = true) (k2 : PySem.W.keepIn K (.ref f2) = true)
    (a3 : PySem.W.nsIn K mainGlobals "is_box" = some (some (.ref f3))) (l3 : K.lookup f3 = some ⟨oc3, od3, .func (PySem.W.fnOf "is_box" "is_box" (defArgs sIsBox) (defBody sIsBox) (defScope sIsBox) .none kV3 dc3 pm3 an3 cd3 ct3), sl3⟩) (c3 : PySem.W.codeIn K cd3 "is_box" = true) (k3 : PySem.W.keepIn K (.ref f3) = true)
    (a4 : PySem.W.nsIn K mainGlobals "is_one_of" = some (some (.ref f4))) (l4 : K.lookup f4 = some ⟨oc4, od4, .func (PySem.W.fnOf "is_one_of" "is_one_of" (defArgs sIsOneOf) (defBody sIsOneOf) (defScope sIsOneOf) .none kV4 dc4 pm4 an4 cd4 ct4), sl4⟩) (c4 : PySem.W.codeIn K cd4 "is_one_of" = true) (k4 : PySem.W.keepIn K (.ref f4) = true)
    (a5 : PySem.W.nsIn K mainGlobals "is_step" = some (some (.ref f5))) (l5 : K.lookup f5 = some ⟨oc5, od5, .func (PySem.W.fnOf "is_step" "is_step" (defArgs sIsStep) (defBody sIsStep) (defScope sIsStep) .none kV5 dc5 pm5 an5 cd5 ct5), sl5⟩) (c5 : PySem.W.codeIn K cd5 "is_step" = true) (k5 : PySem.W.keepIn K (.ref f5) = true)
    (a6 : PySem.W.nsIn K mainGlobals "may_follow" = some (some (.ref f6))) (l6 : K.lookup f6 = some ⟨oc6, od6, .func (PySem.W.fnOf "may_follow" "may_follow" (defArgs sMayFollow) (defBody sMayFollow) (defScope sMayFollow) .none kV6 dc6 pm6 an6 cd6 ct6), sl6⟩) (c6 : PySem.W.codeIn K cd6 "may_follow" = true) (k6 : PySem.W.keepIn K (.ref f6) = true)
    (a7 : PySem.W.nsIn K mainGlobals "is_dealing" = some (some (.ref f7))) (l7 : K.lookup f7 = some ⟨oc7, od7, .func (PySem.W.fnOf "is_dealing" "is_dealing" (defArgs sIsDealing) (defBody sIsDealing) (defScope sIsDealing) .none kV7 dc7 pm7 an7 cd7 ct7), sl7⟩) (c7 : PySem.W.codeIn K cd7 "is_dealing" = true) (k7 : PySem.W.keepIn K (.ref f7) = true)
    (a8 : PySem.W.nsIn K mainGlobals "are_dealings" = some (some (.ref f8))) (l8 : K.lookup f8 = some ⟨oc8, od8, .func (PySem.W.fnOf "are_dealings" "are_dealings" (defArgs sAreDealings) (defBody sAreDealings) (defScope sAreDealings) .none kV8 dc8 pm8 an8 cd8 ct8), sl8⟩) (c8 : PySem.W.codeIn K cd8 "are_dealings" = true) (k8 : PySem.W.keepIn K (.ref f8) = true)
    (a9 : PySem.W.nsIn K mainGlobals "check_dealings" = some (some (.ref f9))) (l9 : K.lookup f9 = some ⟨oc9, od9, .func (PySem.W.fnOf "check_dealings" "check_dealings" (defArgs sCheckS) (defBody sCheckS) (defScope sCheckS) .none kV9 dc9 pm9 an9 cd9 ct9), sl9⟩) (c9 : PySem.W.codeIn K cd9 "check_dealings" = true) (k9 : PySem.W.keepIn K (.ref f9) = true)
    (a10 : PySem.W.nsIn K mainGlobals "turns_of" = some (some (.ref f10))) (l10 : K.lookup f10 = some ⟨oc10, od10, .func (PySem.W.fnOf "turns_of" "turns_of" (defArgs sTurns) (defBody sTurns) (defScope sTurns) .none kV10 dc10 pm10 an10 cd10 ct10), sl10⟩) (c10 : PySem.W.codeIn K cd10 "turns_of" = true) (k10 : PySem.W.keepIn K (.ref f10) = true)
    (a11 : PySem.W.nsIn K mainGlobals "how_many" = some (some (.ref f11))) (l11 : K.lookup f11 = some ⟨oc11, od11, .func (PySem.W.fnOf "how_many" "how_many" (defArgs sHow) (defBody sHow) (defScope sHow) .none kV11 dc11 pm11 an11 cd11 ct11), sl11⟩) (c11 : PySem.W.codeIn K cd11 "how_many" = true) (k11 : PySem.W.keepIn K (.ref f11) = true)
    (a12 : PySem.W.nsIn K mainGlobals "_law_cell_at" = some (some (.ref f12))) (l12 : K.lookup f12 = some ⟨oc12, od12, .func (PySem.W.fnOf "_law_cell_at" "_law_cell_at" (defArgs sCellAt) (defBody sCellAt) (defScope sCellAt) .none kV12 dc12 pm12 an12 cd12 ct12), sl12⟩) (c12 : PySem.W.codeIn K cd12 "_law_cell_at" = true) (k12 : PySem.W.keepIn K (.ref f12) = true)
    (a13 : PySem.W.nsIn K mainGlobals "_law_well" = some (some (.ref f13))) (l13 : K.lookup f13 = some ⟨oc13, od13, .func (PySem.W.fnOf "_law_well" "_law_well" (defArgs sWell) (defBody sWell) (defScope sWell) .none kV13 dc13 pm13 an13 cd13 ct13), sl13⟩) (c13 : PySem.W.codeIn K cd13 "_law_well" = true) (k13 : PySem.W.keepIn K (.ref f13) = true)
    (a14 : PySem.W.nsIn K mainGlobals "_law_draw" = some (some (.ref f14))) (l14 : K.lookup f14 = some ⟨oc14, od14, .func (PySem.W.fnOf "_law_draw" "_law_draw" (defArgs sDraw) (defBody sDraw) (defScope sDraw) .none kV14 dc14 pm14 an14 cd14 ct14), sl14⟩) (c14 : PySem.W.codeIn K cd14 "_law_draw" = true) (k14 : PySem.W.keepIn K (.ref f14) = true)
    (a15 : PySem.W.nsIn K mainGlobals "_law_one" = some (some (.ref f15))) (l15 : K.lookup f15 = some ⟨oc15, od15, .func (PySem.W.fnOf "_law_one" "_law_one" (defArgs sOne) (defBody sOne) (defScope sOne) .none kV15 dc15 pm15 an15 cd15 ct15), sl15⟩) (c15 : PySem.W.codeIn K cd15 "_law_one" = true) (k15 : PySem.W.keepIn K (.ref f15) = true)
    (a16 : PySem.W.nsIn K mainGlobals "_law_boxes" = some (some (.ref f16))) (l16 : K.lookup f16 = some ⟨oc16, od16, .func (PySem.W.fnOf "_law_boxes" "_law_boxes" (defArgs sBoxes) (defBody sBoxes) (defScope sBoxes) .none kV16 dc16 pm16 an16 cd16 ct16), sl16⟩) (c16 : PySem.W.codeIn K cd16 "_law_boxes" = true) (k16 : PySem.W.keepIn K (.ref f16) = true)
    (a17 : PySem.W.nsIn K mainGlobals "_law_dealing" = some (some (.ref f17))) (l17 : K.lookup f17 = some ⟨oc17, od17, .func (PySem.W.fnOf "_law_dealing" "_law_dealing" (defArgs sDealing) (defBody sDealing) (defScope sDealing) .none kV17 dc17 pm17 an17 cd17 ct17), sl17⟩) (c17 : PySem.W.codeIn K cd17 "_law_dealing" = true) (k17 : PySem.W.keepIn K (.ref f17) = true)
    (a18 : PySem.W.nsIn K mainGlobals "_law_dealings" = some (some (.ref f18))) (l18 : K.lookup f18 = some ⟨oc18, od18, .func (PySem.W.fnOf "_law_dealings" "_law_dealings" (defArgs sDealings) (defBody sDealings) (defScope sDealings) .none kV18 dc18 pm18 an18 cd18 ct18), sl18⟩) (c18 : PySem.W.codeIn K cd18 "_law_dealings" = true) (k18 : PySem.W.keepIn K (.ref f18) = true)
    (a19 : PySem.W.nsIn K mainGlobals "_law_told" = some (some (.ref f19))) (l19 : K.lookup f19 = some ⟨oc19, od19, .func (PySem.W.fnOf "_law_told" "_law_told" (defArgs sTold) (defBody sTold) (defScope sTold) .none kV19 dc19 pm19 an19 cd19 ct19), sl19⟩) (c19 : PySem.W.codeIn K cd19 "_law_told" = true) (k19 : PySem.W.keepIn K (.ref f19) = true)
    (a20 : PySem.W.nsIn K mainGlobals "_law_walked" = some (some (.ref f20))) (l20 : K.lookup f20 = some ⟨oc20, od20, .func (PySem.W.fnOf "_law_walked" "_law_walked" (defArgs sWalked) (defBody sWalked) (defScope sWalked) .none kV20 dc20 pm20 an20 cd20 ct20), sl20⟩) (c20 : PySem.W.codeIn K cd20 "_law_walked" = true) (k20 : PySem.W.keepIn K (.ref f20) = true)
    (a21 : PySem.W.nsIn K mainGlobals "_law_product" = some (some (.ref f21))) (l21 : K.lookup f21 = some ⟨oc21, od21, .func (PySem.W.fnOf "_law_product" "_law_product" (defArgs sProd) (defBody sProd) (defScope sProd) .none kV21 dc21 pm21 an21 cd21 ct21), sl21⟩) (c21 : PySem.W.codeIn K cd21 "_law_product" = true) (k21 : PySem.W.keepIn K (.ref f21) = true)
    (a22 : PySem.W.nsIn K mainGlobals "_law_reckoned" = some (some (.ref f22))) (l22 : K.lookup f22 = some ⟨oc22, od22, .func (PySem.W.fnOf "_law_reckoned" "_law_reckoned" (defArgs sReck) (defBody sReck) (defScope sReck) .none kV22 dc22 pm22 an22 cd22 ct22), sl22⟩) (c22 : PySem.W.codeIn K cd22 "_law_reckoned" = true) (k22 : PySem.W.keepIn K (.ref f22) = true)
    (a23 : PySem.W.nsIn K mainGlobals "_law_right" = some (some (.ref f23))) (l23 : K.lookup f23 = some ⟨oc23, od23, .func (PySem.W.fnOf "_law_right" "_law_right" (defArgs sRight) (defBody sRight) (defScope sRight) .none kV23 dc23 pm23 an23 (.ref cL) ct23), sl23⟩) (c23 : PySem.W.codeIn K (.ref cL) "_law_right" = true) (k23 : PySem.W.keepIn K (.ref f23) = true)
    (a24 : PySem.W.nsIn K mainGlobals "law" = some (some (.ref f24))) (l24 : K.lookup f24 = some ⟨oc24, od24, .func (PySem.W.fnOf "law" "law" (defArgs sLaw) (defBody sLaw) (defScope sLaw) .none kV24 dc24 pm24 an24 cd24 ct24), sl24⟩) (c24 : PySem.W.codeIn K cd24 "law" = true) (k24 : PySem.W.keepIn K (.ref f24) = true)
    (z1 : PySem.W.nsIn K mainGlobals "isinstance" = some none)
    (z2 : PySem.W.nsIn K mainGlobals "int" = some none)
    (z3 : PySem.W.nsIn K mainGlobals "bool" = some none)
    (z4 : PySem.W.nsIn K mainGlobals "str" = some none)
    (z5 : PySem.W.nsIn K mainGlobals "tuple" = some none)
    (z6 : PySem.W.nsIn K mainGlobals "list" = some none)
    (z7 : PySem.W.nsIn K mainGlobals "len" = some none)
    (z8 : PySem.W.nsIn K mainGlobals "all" = some none)
    (z9 : PySem.W.nsIn K mainGlobals "sum" = some none)
    (z10 : PySem.W.nsIn K mainGlobals "enumerate" = some none)
    (z11 : PySem.W.nsIn K mainGlobals "range" = some none)
    (z12 : PySem.W.nsIn K mainGlobals "max" = some none)
    (z13 : PySem.W.nsIn K mainGlobals "min" = some none)
    (y1 : PySem.W.nsIn K mainGlobals "MOST_BOX" = some (some (.int 100000000 t1)))
    (y2 : PySem.W.nsIn K mainGlobals "MOST_STEPS" = some (some (.int 8 t2)))
    (y3 : PySem.W.nsIn K mainGlobals "MOST_DEALINGS" = some (some (.int 100 t3)))
    (xA : PySem.W.nsIn K mainGlobals "AloneError" = some (some (.ref CA)))
    (xS : PySem.W.nsIn K mainGlobals "NoDealings" = some (some (.ref CS)))
    (xW : PySem.W.nsIn K mainGlobals "NoWeaving" = some (some (.ref CW)))
    (xO : PySem.W.nsIn K mainGlobals "NoOrder" = some (some (.ref CO)))
    (xN : PySem.W.nsIn K mainGlobals "NoNumber" = some (some (.ref CN)))
    (xV : PySem.W.nsIn K mainGlobals "ValueError" = some none)
    (e1 : PySem.W.subIn K (.ref CA) (.type "BaseException") = some true)
    (e2 : PySem.W.hasDictIn K CA = true)
    (e3 : PySem.W.typeIn K (.ref CA) = some (.type "type"))
    (w5 : PySem.W.specialIn K (.builtin "object.__class__") "__get__" = some (some (.builtin "getset_descriptor.__get__")))
    (w6 : PySem.W.takesIn K (.builtin "object.__class__") = some true)
    (xXS : PySem.W.excIn K CS [.type "ValueError", .type "Exception", .type "BaseException", .type "object"] "ValueError.__new__" = true)
    (xKS : PySem.W.keepIn K (.ref CS) = true)
    (xBS : PySem.W.subIn K (.ref CS) (.type "BaseException") = some true)
    (xTS : PySem.W.typeIn K (.ref CS) = some (.type "type"))
    (e4S : PySem.W.subIn K (.ref CS) (.ref CA) = some true)
    (w1S : PySem.W.findIn K (.ref CS) "__getattribute__" = some (some (.builtin "BaseException.__getattribute__")))
    (w2S : PySem.W.findIn K (.ref CS) "__getattr__" = some none)
    (w3S : PySem.W.hasDictIn K CS = true)
    (w4S : PySem.W.findIn K (.ref CS) "__class__" = some (some (.builtin "object.__class__")))
    (w7S : PySem.W.mroIn K CS (.type "object") = some true)
    (iSS : PySem.W.kitOne K (.ref CS) (.ref CS) = some true)
    (iSW : PySem.W.kitOne K (.ref CS) (.ref CW) = some false)
    (iSO : PySem.W.kitOne K (.ref CS) (.ref CO) = some false)
    (iSN : PySem.W.kitOne K (.ref CS) (.ref CN) = some false)
    (iSV : PySem.W.kitOne K (.ref CS) (.type "ValueError") = some true)
    (xXO : PySem.W.excIn K CO [.type "ValueError", .type "Exception", .type "BaseException", .type "object"] "ValueError.__new__" = true)
    (xKO : PySem.W.keepIn K (.ref CO) = true)
    (xBO : PySem.W.subIn K (.ref CO) (.type "BaseException") = some true)
    (xTO : PySem.W.typeIn K (.ref CO) = some (.type "type"))
    (e4O : PySem.W.subIn K (.ref CO) (.ref CA) = some true)
    (w1O : PySem.W.findIn K (.ref CO) "__getattribute__" = some (some (.builtin "BaseException.__getattribute__")))
    (w2O : PySem.W.findIn K (.ref CO) "__getattr__" = some none)
    (w3O : PySem.W.hasDictIn K CO = true)
    (w4O : PySem.W.findIn K (.ref CO) "__class__" = some (some (.builtin "object.__class__")))
    (w7O : PySem.W.mroIn K CO (.type "object") = some true)
    (iOS : PySem.W.kitOne K (.ref CO) (.ref CS) = some false)
    (iOW : PySem.W.kitOne K (.ref CO) (.ref CW) = some false)
    (iOO : PySem.W.kitOne K (.ref CO) (.ref CO) = some true)
    (iON : PySem.W.kitOne K (.ref CO) (.ref CN) = some false)
    (iOV : PySem.W.kitOne K (.ref CO) (.type "ValueError") = some true)
    (tP : h.get? pL = some { cls := .none, data := .fields #[] })
    (nP : K.lookup pL = none)
    (hC : PySem.W.codeHdIn K cL pL = true)
    : LamX.LawAtS l w K CX0 12 63 "_law_script" mg fa h := by
  have e := hfa.symm.trans (PySem.W.mg_of X G a24)
  cases e
  have F1 := fun_mk (st := sIsWhole) l1 c1 k1
  have b1 := F1.binds (ps := ["thing"]) fun _ _ _ _ _ _ us hl => match us, hl with | [_], _ => rfl
  have g1 := PySem.W.mg_of X G a1
  have F2 := fun_mk (st := sIsNumber) l2 c2 k2
  have b2 := F2.binds (ps := ["thing", "many"]) fun _ _ _ _ _ _ us hl => match us, hl with | [_, _], _ => rfl
  have g2 := PySem.W.mg_of X G a2
  have F3 := fun_mk (st := sIsBox) l3 c3 k3
  have b3 := F3.binds (ps := ["thing"]) fun _ _ _ _ _ _ us hl => match us, hl with | [_], _ => rfl
  have g3 := PySem.W.mg_of X G a3
  have F4 := fun_mk (st := sIsOneOf) l4 c4 k4
  have b4 := F4.binds (ps := ["thing", "words"]) fun _ _ _ _ _ _ us hl => match us, hl with | [_, _], _ => rfl
  have g4 := PySem.W.mg_of X G a4
  have F5 := fun_mk (st := sIsStep) l5 c5 k5
  have b5 := F5.binds (ps := ["thing"]) fun _ _ _ _ _ _ us hl => match us, hl with | [_], _ => rfl
  have g5 := PySem.W.mg_of X G a5
  have F6 := fun_mk (st := sMayFollow) l6 c6 k6
  have b6 := F6.binds (ps := ["step", "ahead"]) fun _ _ _ _ _ _ us hl => match us, hl with | [_, _], _ => rfl
  have g6 := PySem.W.mg_of X G a6
  have F7 := fun_mk (st := sIsDealing) l7 c7 k7
  have b7 := F7.binds (ps := ["thing"]) fun _ _ _ _ _ _ us hl => match us, hl with | [_], _ => rfl
  have g7 := PySem.W.mg_of X G a7
  have F8 := fun_mk (st := sAreDealings) l8 c8 k8
  have b8 := F8.binds (ps := ["thing"]) fun _ _ _ _ _ _ us hl => match us, hl with | [_], _ => rfl
  have g8 := PySem.W.mg_of X G a8
  have F9 := fun_mk (st := sCheckS) l9 c9 k9
  have b9 := F9.binds (ps := ["thing"]) fun _ _ _ _ _ _ us hl => match us, hl with | [_], _ => rfl
  have g9 := PySem.W.mg_of X G a9
  have F10 := fun_mk (st := sTurns) l10 c10 k10
  have b10 := F10.binds (ps := ["dealings"]) fun _ _ _ _ _ _ us hl => match us, hl with | [_], _ => rfl
  have g10 := PySem.W.mg_of X G a10
  have F11 := fun_mk (st := sHow) l11 c11 k11
  have b11 := F11.binds (ps := ["dealings"]) fun _ _ _ _ _ _ us hl => match us, hl with | [_], _ => rfl
  have g11 := PySem.W.mg_of X G a11
  have F12 := fun_mk (st := sCellAt) l12 c12 k12
  have b12 := F12.binds (ps := ["_law_script", "_law_k"]) fun _ _ _ _ _ _ us hl => match us, hl with | [_, _], _ => rfl
  have g12 := PySem.W.mg_of X G a12
  have F13 := fun_mk (st := sWell) l13 c13 k13
  have b13 := F13.binds (ps := ["_law_cell"]) fun _ _ _ _ _ _ us hl => match us, hl with | [_], _ => rfl
  have g13 := PySem.W.mg_of X G a13
  have F14 := fun_mk (st := sDraw) l14 c14 k14
  have b14 := F14.binds (ps := ["_law_well_here", "_law_many"]) fun _ _ _ _ _ _ us hl => match us, hl with | [_, _], _ => rfl
  have g14 := PySem.W.mg_of X G a14
  have F15 := fun_mk (st := sOne) l15 c15 k15
  have b15 := F15.binds (ps := ["_law_well_here", "_law_some"]) fun _ _ _ _ _ _ us hl => match us, hl with | [_, _], _ => rfl
  have g15 := PySem.W.mg_of X G a15
  have F16 := fun_mk (st := sBoxes) l16 c16 k16
  have b16 := F16.binds (ps := ["_law_well_here"]) fun _ _ _ _ _ _ us hl => match us, hl with | [_], _ => rfl
  have g16 := PySem.W.mg_of X G a16
  have F17 := fun_mk (st := sDealing) l17 c17 k17
  have b17 := F17.binds (ps := ["_law_well_here", "_law_boxes_here", "_law_most"]) fun _ _ _ _ _ _ us hl => match us, hl with | [_, _, _], _ => rfl
  have g17 := PySem.W.mg_of X G a17
  have F18 := fun_mk (st := sDealings) l18 c18 k18
  have b18 := F18.binds (ps := ["_law_well_here", "_law_many", "_law_most"]) fun _ _ _ _ _ _ us hl => match us, hl with | [_, _, _], _ => rfl
  have g18 := PySem.W.mg_of X G a18
  have F19 := fun_mk (st := sTold) l19 c19 k19
  have b19 := F19.binds (ps := ["_law_ask"]) fun _ _ _ _ _ _ us hl => match us, hl with | [_], _ => rfl
  have g19 := PySem.W.mg_of X G a19
  have F20 := fun_mk (st := sWalked) l20 c20 k20
  have b20 := F20.binds (ps := ["_law_turns"]) fun _ _ _ _ _ _ us hl => match us, hl with | [_], _ => rfl
  have g20 := PySem.W.mg_of X G a20
  have F21 := fun_mk (st := sProd) l21 c21 k21
  have b21 := F21.binds (ps := ["_law_many"]) fun _ _ _ _ _ _ us hl => match us, hl with | [_], _ => rfl
  have g21 := PySem.W.mg_of X G a21
  have F22 := fun_mk (st := sReck) l22 c22 k22
  have b22 := F22.binds (ps := ["_law_turns"]) fun _ _ _ _ _ _ us hl => match us, hl with | [_], _ => rfl
  have g22 := PySem.W.mg_of X G a22
  have F23 := fun_mk (st := sRight) l23 c23 k23
  have b23 := F23.binds (ps := ["_law_well_here"]) fun _ _ _ _ _ _ us hl => match us, hl with | [_], _ => rfl
  have g23 := PySem.W.mg_of X G a23
  have F24 := fun_mk (st := sLaw) l24 c24 k24
  have M : Mg mg := ⟨PySem.W.mg_none_of X G z1, PySem.W.mg_none_of X G z2, PySem.W.mg_none_of X G z3, PySem.W.mg_none_of X G z4, PySem.W.mg_none_of X G z5, PySem.W.mg_none_of X G z6, PySem.W.mg_none_of X G z7, PySem.W.mg_none_of X G z8, PySem.W.mg_none_of X G z9, PySem.W.mg_none_of X G z10, PySem.W.mg_none_of X G z11, PySem.W.mg_none_of X G z12, PySem.W.mg_none_of X G z13, ⟨_, PySem.W.mg_of X G y1⟩, ⟨_, PySem.W.mg_of X G y2⟩, ⟨_, PySem.W.mg_of X G y3⟩⟩
  have ES : Er K mg "NoDealings" CA CS := ⟨PySem.W.mg_of X G xS, xXS, xKS, xBS, xTS, PySem.W.exm_ref e1 e2 e3 e4S, ⟨w1S, w2S, xBS, w3S, w4S, w5, w6, w7S⟩⟩
  have T : Tl K mg CA CS CW CO CN := ⟨PySem.W.mg_of X G xA, PySem.W.mg_of X G xS, PySem.W.mg_of X G xW, PySem.W.mg_of X G xO, PySem.W.mg_of X G xN, PySem.W.mg_none_of X G xV⟩
  have KS : Ki K CS CA CS CW CO CN true false := ⟨PySem.W.exm_ref e1 e2 e3 e4S, ⟨w1S, w2S, xBS, w3S, w4S, w5, w6, w7S⟩, iSS, iSW, iSO, iSN, iSV⟩
  have KO : Ki K CO CA CS CW CO CN false true := ⟨PySem.W.exm_ref e1 e2 e3 e4O, ⟨w1O, w2O, xBO, w3O, w4O, w5, w6, w7O⟩, iOS, iOW, iOO, iON, iOV⟩
  refine ⟨PySem.W.fnOf "law" "law" (defArgs sLaw) (defBody sLaw) (defScope sLaw) .none kV24 dc24 pm24 an24 cd24 ct24, [(cL, pL)], spLaw K pL, fun p hp => by rw [List.mem_singleton.mp hp]; exact tP, fun p hp => by rw [List.mem_singleton.mp hp]; exact nP, fun p hp => by rw [List.mem_singleton.mp hp]; exact PySem.W.codeHd_of_K X hC, fun s v => .of_eq rfl,
    fun H a ns hl _ hT hS => ⟨a, ns, rfl, hS, hl, fun p hp => by rw [List.mem_singleton.mp hp]; exact LamX.TabS.nil (hT (cL, pL) (List.mem_singleton.mpr rfl)), fun _ => rfl⟩, fun base _ _ hTB => ?_⟩
  have TB : LamX.TabB base mg cL pL := hTB (cL, pL) (List.mem_singleton.mpr rfl)
  have W1 := fun k => ok_is_whole (P := l.prog) (w := w) (base := base) (k := k) F1 M
  have W2 := fun k => ok_is_number (k := k + 1) F2 M (W1 k) g1 k1 b1
  have W3 := fun k => ok_is_box (k := k + 2) F3 M (W2 k) g2 k2 b2
  have W4 := fun k => ok_is_one_of (P := l.prog) (w := w) (base := base) (k := k) F4 M
  have W5 := fun k => ok_is_step (k := k + 3) F5 M (W4 (k + 2)) g4 k4 b4 (W3 k) g3 k3 b3
  have W6 := fun k => ok_may_follow (P := l.prog) (w := w) (base := base) (k := k) F6 M
  have W7 := ok_is_dealing (k := 4) F7 M (W5 0) g5 k5 b5 (W6 3) g6 k6 b6
  have W8 := ok_are_dealings (k := 5) F8 M W7 g7 k7 b7
  have W9 := ok_checkS (k := 6) F9 ES W8 g8 k8 b8
  have W10 := ok_turns (P := l.prog) (w := w) (base := base) (k := 6) F10 M
  have W11 := ok_how (k := 7) F11 M W9 g9 k9 b9 W10 g10 k10 b10
  have D := fun k => ok_draw (P := l.prog) (w := w) (base := base) (k := k) F14 M
  have O1 := fun k => ok_one (k := k + 1) F15 M (D k) g14 k14 b14
  have B1 := ok_boxes (k := 8) F16 M (D 7) g14 k14 b14
  have D1 := ok_dealing (k := 8) F17 M (D 7) g14 k14 b14 (O1 6) g15 k15 b15
  have D2 := ok_dealings (k := 9) F18 M B1 g16 k16 b16 D1 g17 k17 b17
  have P1 := fun k => ok_prod (P := l.prog) (w := w) (base := base) (k := k) F21 M
  have Q1 := ok_reck (k := 9) F22 M (P1 8) g21 k21 b21
  have A1 := ok_walked (P := l.prog) (w := w) (base := base) (k := 9) F20 M
  have R := ok_right (k := 8) l23 c23 F19 g19 b19 TB M T KS KO ⟨f14, _, D 9, g14, k14, b14⟩ ⟨f18, _, D2, g18, k18, b18⟩ ⟨f15, _, O1 8, g15, k15, b15⟩ ⟨f22, _, Q1, g22, k22, b22⟩ ⟨f20, _, A1, g20, k20, b20⟩ ⟨f11, _, W11, g11, k11, b11⟩
  exact ok_law (k := 11) F24 M (ok_cell_at F12 M) g12 k12 b12 (ok_well F13 M) g13 k13 b13 R g23 k23 b23
end As
open PySem PySem.W PyProof.Rows
set_option maxHeartbeats 0 in
theorem PySem.Challenge.cw_asifalone_k13_how_many_weavings_holds : PySem.Challenge.rw_asifalone_k13_how_many_weavings.Holds := by
  w_on; o_law; k_head; (case hw => w_witness2)
  k_fill
  refine LamX.walk_ofTs (l := PySem.Challenge.rw_asifalone_k13_how_many_weavings) (n := 63) (k := 12) (x := "_law_script") (CX := fun _ => L2.CX0) rfl (by decide) rfl ⟨rfl, by decide, by decide⟩ (fun w h Y => PySem.W.km_in_of Y) ?F (fun _ _ _ _ _ h => h)
  case F =>
    intro w mg fa h Y KX G hmg
    refine' As.all_mk KX G hmg ?a1 ?l1 ?c1 ?k1 ?a2 ?l2 ?c2 ?k2 ?a3 ?l3 ?c3 ?k3 ?a4 ?l4 ?c4 ?k4 ?a5 ?l5 ?c5 ?k5 ?a6 ?l6 ?c6 ?k6 ?a7 ?l7 ?c7 ?k7 ?a8 ?l8 ?c8 ?k8 ?a9 ?l9 ?c9 ?k9 ?a10 ?l10 ?c10 ?k10 ?a11 ?l11 ?c11 ?k11 ?a12 ?l12 ?c12 ?k12 ?a13 ?l13 ?c13 ?k13 ?a14 ?l14 ?c14 ?k14 ?a15 ?l15 ?c15 ?k15 ?a16 ?l16 ?c16 ?k16 ?a17 ?l17 ?c17 ?k17 ?a18 ?l18 ?c18 ?k18 ?a19 ?l19 ?c19 ?k19 ?a20 ?l20 ?c20 ?k20 ?a21 ?l21 ?c21 ?k21 ?a22 ?l22 ?c22 ?k22 ?a23 ?l23 ?c23 ?k23 ?a24 ?l24 ?c24 ?k24 ?z1 ?z2 ?z3 ?z4 ?z5 ?z6 ?z7 ?z8 ?z9 ?z10 ?z11 ?z12 ?z13 ?y1 ?y2 ?y3 ?xA ?xS ?xW ?xO ?xN ?xV ?e1 ?e2 ?e3 ?w5 ?w6 ?xXS ?xKS ?xBS ?xTS ?e4S ?w1S ?w2S ?w3S ?w4S ?w7S ?iSS ?iSW ?iSO ?iSN ?iSV ?xXO ?xKO ?xBO ?xTO ?e4O ?w1O ?w2O ?w3O ?w4O ?w7O ?iOS ?iOW ?iOO ?iON ?iOV ?tP ?nP ?hC
    (case tP => exact PySem.W.km_tabs_of Y _ (List.mem_cons_self ..))
    (case a1 => k_is); (case l1 => k_is); (case c1 => k_is); (case k1 => k_is); (case a2 => k_is); (case l2 => k_is); (case c2 => k_is); (case k2 => k_is); (case a3 => k_is); (case l3 => k_is); (case c3 => k_is); (case k3 => k_is); (case a4 => k_is); (case l4 => k_is); (case c4 => k_is); (case k4 => k_is); (case a5 => k_is); (case l5 => k_is); (case c5 => k_is); (case k5 => k_is); (case a6 => k_is); (case l6 => k_is); (case c6 => k_is); (case k6 => k_is); (case a7 => k_is); (case l7 => k_is); (case c7 => k_is); (case k7 => k_is); (case a8 => k_is); (case l8 => k_is); (case c8 => k_is); (case k8 => k_is); (case a9 => k_is); (case l9 => k_is); (case c9 => k_is); (case k9 => k_is); (case a10 => k_is); (case l10 => k_is); (case c10 => k_is); (case k10 => k_is); (case a11 => k_is); (case l11 => k_is); (case c11 => k_is); (case k11 => k_is); (case a12 => k_is); (case l12 => k_is); (case c12 => k_is); (case k12 => k_is); (case a13 => k_is); (case l13 => k_is); (case c13 => k_is); (case k13 => k_is); (case a14 => k_is); (case l14 => k_is); (case c14 => k_is); (case k14 => k_is); (case a15 => k_is); (case l15 => k_is); (case c15 => k_is); (case k15 => k_is); (case a16 => k_is); (case l16 => k_is); (case c16 => k_is); (case k16 => k_is); (case a17 => k_is); (case l17 => k_is); (case c17 => k_is); (case k17 => k_is); (case a18 => k_is); (case l18 => k_is); (case c18 => k_is); (case k18 => k_is); (case a19 => k_is); (case l19 => k_is); (case c19 => k_is); (case k19 => k_is); (case a20 => k_is); (case l20 => k_is); (case c20 => k_is); (case k20 => k_is); (case a21 => k_is); (case l21 => k_is); (case c21 => k_is); (case k21 => k_is); (case a22 => k_is); (case l22 => k_is); (case c22 => k_is); (case k22 => k_is); (case a23 => k_is); (case l23 => k_is); (case c23 => k_is); (case k23 => k_is); (case a24 => k_is); (case l24 => k_is); (case c24 => k_is); (case k24 => k_is); (case z1 => k_is); (case z2 => k_is); (case z3 => k_is); (case z4 => k_is); (case z5 => k_is); (case z6 => k_is); (case z7 => k_is); (case z8 => k_is); (case z9 => k_is); (case z10 => k_is); (case z11 => k_is); (case z12 => k_is); (case z13 => k_is); (case y1 => k_is); (case y2 => k_is); (case y3 => k_is); (case xA => k_is); (case xS => k_is); (case xW => k_is); (case xO => k_is); (case xN => k_is); (case xV => k_is); (case e1 => k_is); (case e2 => k_is); (case e3 => k_is); (case w5 => k_is); (case w6 => k_is); (case xXS => k_exc); (case xKS => k_is); (case xBS => k_is); (case xTS => k_is); (case e4S => k_is); (case w1S => k_is); (case w2S => k_is); (case w3S => k_is); (case w4S => k_is); (case w7S => k_is); (case iSS => first | k_is | kernel_rfl | rfl); (case iSW => first | k_is | kernel_rfl | rfl); (case iSO => first | k_is | kernel_rfl | rfl); (case iSN => first | k_is | kernel_rfl | rfl); (case iSV => first | k_is | kernel_rfl | rfl); (case xXO => k_exc); (case xKO => k_is); (case xBO => k_is); (case xTO => k_is); (case e4O => k_is); (case w1O => k_is); (case w2O => k_is); (case w3O => k_is); (case w4O => k_is); (case w7O => k_is); (case iOS => first | k_is | kernel_rfl | rfl); (case iOW => first | k_is | kernel_rfl | rfl); (case iOO => first | k_is | kernel_rfl | rfl); (case iON => first | k_is | kernel_rfl | rfl); (case iOV => first | k_is | kernel_rfl | rfl); (case nP => first | k_is | kernel_rfl | rfl); (case hC => first | k_is | kernel_rfl | rfl)
