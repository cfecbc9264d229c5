import PyProof.Rows.All
import Wide.All
import OpenK.AllK
import Wide.FinOn
import HandS.ForMost
import HandS.Walk
import HandS.Deep
import HandS.TupAny
import HandS.IsInst
import KE.GoesEnum
import KE.KRevSl
import HandS.Style
import HandS.Evl
import HandS.StrMore
import HandS.Codes
import HandS.FStr
import HandS.ForExc
import HandS.ExcIs
import HandS.More
import HandS.SortInts
import HandS.Conv
import KE.KSortedM
import PyProof.NeKinds
import PyProof.StrBlock2
import HandS.Dict
import HandS.Lambda
import HandS.EndTab
import PySem.Challenge.RW_asifalone_k03_dealings_as_texts
set_option Elab.async false
set_option linter.all false
set_option maxRecDepth 100000
set_option maxHeartbeats 4000000
/-! rules that the layer lacks: enumerate of a tuple, in over a tuple of data, t[::-1] of a tuple -/
namespace PySem
open Sem (wp)
set_option maxHeartbeats 4000000 in
theorem as_meets_enum {v : Value} {o : Obj} {H : Heap → Prop} (B : Begins v o H) :
    Meets (Builtin.«enumerate.__new__» ⟨[.type "enumerate", v], []⟩) (fun _ R s => H s.heap ∧
      R (.ok (.ret (.ref (s.heap.push o).objs.size))) { s with heap := (s.heap.push o).push { cls := .type "enumerate", data := .fields #[.none, .bool false, .ref s.heap.objs.size, rawInt 0, .none, .none] } }) :=
  .of_wp fun prog w A R s h => by
    obtain ⟨hpk, g, d, tkk, osk⟩ := s; obtain ⟨h1, h⟩ := h
    have hsub := sub_enumerate
    have q1k : ∀ {A' : Around} {E : Value → Shared → Prop} {Q : Value → Shared → Prop}, Q (.ref hpk.objs.size) ⟨hpk.push o, g, d, tkk, osk⟩ → wpAny (model prog w) A' (pyIter v) Q E ⟨hpk, g, d, tkk, osk⟩ :=
      fun q => B.iter prog w _ _ ⟨hpk, g, d, tkk, osk⟩ _ h1 q
    wp_walk using q1k
    refine wpAny_stack_any fun st => wpAny_pure ?_
    split
    · rename_i c _ _ _ _ _
      cases (c == Value.type "enumerate")
      · wp_walk using q1k
        exact ⟨_, rfl, h⟩
      · wp_walk using q1k
        exact ⟨_, rfl, h⟩
    · wp_walk using q1k
      exact ⟨_, rfl, h⟩
section
variable {prog : Program} {w : World} {A : Around} {E : Value → Shared → Prop} {s : Shared}
theorem as_call_enum {v : Value} {o : Obj} {H : Heap → Prop} {Q : Value → Shared → Prop} (B : Begins v o H) (h1 : H s.heap)
    (h : ∀ h', IsEnum h' (s.heap.objs.size + 1) s.heap.objs.size 0 .none → h'.get? s.heap.objs.size = some o → h'.objs.size = s.heap.objs.size + 2 →
      (∀ b o, s.heap.get? b = some o → h'.get? b = some o) → Q (.ref (s.heap.objs.size + 1)) { s with heap := h' }) :
    wpAny (model prog w) A (call (.type "enumerate") [v]) Q E s := by
  refine callType_new F.called_enumerate (by decide) (F.typeCall_enumerate_1 _) (F.newCall_enumerate_1 _) (fun obj => F.args_object_init_2 obj _) F.entry_enumerate_new
    (as_meets_enum B) ⟨h1, ?_⟩
  have hzk : (s.heap.push o).objs.size = s.heap.objs.size + 1 := Heap.size_push ..
  show _ ∧ _
  rw [hzk]
  have hek : IsEnum ((s.heap.push o).push { cls := .type "enumerate", data := .fields #[.none, .bool false, .ref s.heap.objs.size, rawInt 0, .none, .none] }) (s.heap.objs.size + 1) s.heap.objs.size 0 .none := by
    have := Heap.get?_push_size (s.heap.push o) (o := { cls := .type "enumerate", data := .fields #[.none, .bool false, .ref s.heap.objs.size, rawInt 0, .none, .none] }) rfl
    rw [hzk] at this; exact this
  refine ⟨⟨_, hek, rfl⟩, h _ hek (Heap.get?_push_of_some _ (Heap.get?_push_size _ B.free)) (by rw [Heap.size_push, hzk]) fun b o x => Heap.get?_push_of_some _ (Heap.get?_push_of_some _ x)⟩
end
end PySem
namespace L2
open PySem PySem.Spec PyProof.Rows
/-! ### enumerate(tuple) -/
def ItEt (K : PySem.W.Frag) (a : Addr) : It :=
  ⟨fun i H => ∃ (xs : List V) (x : V), SqT K H a xs ∧ xs[i]? = some x, fun i H v H' => ∃ T x, v = .ref T ∧ H T = none ∧ H' = upd H T (.tup [.int (i : Nat), x]) ∧ ∀ xs, SqT K H a xs → xs[i]? = some x, fun i H => ∃ xs : List V, SqT K H a xs ∧ xs.length = i⟩
theorem turn_enumT {P : Program} {w : World} {K : PySem.W.Frag} {elts : List Expr} {kk : Nat} {tpos : Pos} (a e it : Addr) :
    Turn P w K (.Tuple elts kk tpos) (ItEt K a) [e, it] e (fun i h => (∃ oldk, IsEnum h e it ((i : Nat) : Int) oldk) ∧ h.IsTupleIter it a i ∧ e ≠ it ∧ a ≠ it ∧ a ≠ e) where
  mem := by simp
  obj := fun i h st b hbk => by
    obtain ⟨⟨oldk, hek⟩, ⟨o, ho, hc, hd⟩, _⟩ := st
    have ek' : b = e ∨ b = it := by simpa using hbk
    rcases ek' with z | z
    · rw [z]; exact ⟨_, hek, fun v q => nomatch q⟩
    · rw [z]; exact ⟨o, ho, fun v q => by rw [hd] at q; cases q⟩
  keep := fun i h h' st k => let ⟨⟨oldk, hek⟩, hik, hnek⟩ := st; ⟨⟨oldk, k e (by simp) _ hek⟩, hik.at fun o q => k it (by simp) o q, hnek⟩
  item := by
    intro X hPk hwk hKk hc i pinsk s σ H E Ik hfk st hgk
    subst hPk hwk hKk
    obtain ⟨⟨oldk, hek⟩, hitk, hnek, hai, hae⟩ := st
    obtain ⟨xs, x, hqk, hxk⟩ := hgk
    obtain ⟨itsk, rvk, p, hzk⟩ := Ik.tuple hqk
    obtain ⟨u, huk, ruk⟩ := rvk.get hxk
    have helk : e < s.heap.objs.size := Heap.lt_size hek
    have hilk : it < s.heap.objs.size := by obtain ⟨_, q, _⟩ := hitk; exact Heap.lt_size q
    have p' : s.heap.IsTuple a itsk.toArray := p
    have hlt : i < itsk.toArray.size := by
      have := (List.getElem?_eq_some_iff.mp huk).1
      simpa using this
    refine wpAny_pyNext_enum_itemD (Draws.tuple (A := X.A.in1) (Ik.ok.hd hc) it a hai itsk.toArray) hek ⟨hitk, p'⟩ hlt hnek (by simp only [List.mem_cons, List.mem_singleton, List.not_mem_nil, or_false, not_or]; exact ⟨hnek, fun z => hae z.symm⟩) fun x' h' tkk hx' ho st' hTk hszk hkk => ?_
    have exk : x' = u := by
      have q1k : itsk[i]? = some x' := by simpa using hx'
      exact Option.some.inj (q1k.symm.trans huk)
    subst exk
    obtain ⟨hit', _⟩ := st'
    refine ⟨_, rfl, wpAny_letOwnedTupleGo_enum (s := { s with heap := h', toks := tkk + 1 }) ho fun h'' he' sbk => ?_⟩
    have hT2 : h''.get? s.heap.objs.size = some { cls := .type "tuple", data := .seq #[.int i tkk, x'] } := (sbk.2 _ (Nat.ne_of_gt helk)).trans hTk
    have newk : ObjOk X.prog X.w (upd H s.heap.objs.size (.tup [.int (i : Nat), x])) h'' s.heap.objs.size (.tup [.int (i : Nat), x]) :=
      ⟨by show 2 ≤ sizeLine; decide, [.int i tkk, x'], .cons ⟨_, rfl⟩ (.cons ruk .nil), ⟨_, hT2, rfl, _, rfl⟩⟩
    have I1k : Inv X pinsk σ (upd H s.heap.objs.size (.tup [.int (i : Nat), x])) { s with heap := h'', toks := tkk + 1 } :=
      Ik.turnedNew (ch := [e, it]) (fun b ob hbk q => (sbk.2 b (fun z => hbk (by simp [z]))).trans (hkk b ob (fun z => hbk (by simp [z])) (fun z => hbk (by simp [z])) q)) hfk (Nat.le_refl _) newk
    refine ⟨.ref s.heap.objs.size, _, I1k, rfl, ⟨_, x, rfl, Ik.hok.fresh (Nat.le_refl _), rfl, fun ys hy => by rw [Ik.tuple_inj hy hqk]; exact hxk⟩, ⟨⟨x', ?_⟩, hit'.at fun o q => (sbk.2 it (Ne.symm hnek)).trans q, hnek, hai, hae⟩, fun b hbk => ?_⟩
    · have e1 : ((i + 1 : Nat) : Int) = (i : Int) + 1 := by omega
      rw [e1]; exact he'
    · have hbk' : b < s.heap.objs.size := by
        have ek' : b = e ∨ b = it := by simpa using hbk
        rcases ek' with z | z
        · rw [z]; exact helk
        · rw [z]; exact hilk
      rw [upd_ne (Nat.ne_of_lt hbk')]
      exact (hfk b hbk).1
  done := by
    intro X hPk hwk hKk hc i pinsk s σ H E Ik hfk st hgk
    subst hPk hwk hKk
    obtain ⟨⟨oldk, hek⟩, hitk, hnek, hai, hae⟩ := st
    obtain ⟨xs, hqk, hxk⟩ := hgk
    obtain ⟨itsk, rvk, p, hzk⟩ := Ik.tuple hqk
    obtain ⟨f0k, f1k, f2k, f3k, f4k, f5k⟩ := hfk it (by simp)
    have hl := rvk.length
    have hit2 : s.heap.IsTupleIter it a i := hitk
    exact wpAny_pyNext_enum_endD (Draws.tuple (A := X.A.in1) (Ik.ok.hd hc) it a hai itsk.toArray) hek (show s.heap.IsTupleIter it a itsk.toArray.size ∧ s.heap.IsTuple a itsk.toArray from ⟨by
        have e0 : itsk.toArray.size = i := by rw [List.size_toArray]; omega
        rw [e0]; exact hitk, p⟩) fun h' eb => ⟨rfl, Ik.turned (t' := s.toks) (fun b o hbk q => eb b o hbk q) f0k f1k f3k f4k f5k⟩
  self := fun A i s Q E st h => let ⟨⟨_, hek⟩, _⟩ := st; wpAny_pyIter_enum hek h
def iEnumT (K : PySem.W.Frag) (ta : TA) : TI := fun σ H R => ta σ H fun vs H1k => ∃ a xs, vs = [.ref a] ∧ SqT K H1k a xs ∧ R (ItEt K a) H1k
theorem pi_enumT {X : Cx} {e : Expr} {ta : TA} {p pos tpos : Pos} {elts : List Expr} {kk : Nat} (hgk : Gl X "enumerate") (hm : X.mg "enumerate" = none) (ha : PA X [e] ta) (hsk : starEach [e] X.env = [(false, eval e X.env)] := by rfl) :
    PI X (.Tuple elts kk tpos) (.Call (.Name "enumerate" p) [e] [] pos) (iEnumT X.K ta) := by
  refine ⟨fun pinsk s σ H R Ik h => ?_⟩
  refine Call_ (ld_blt Ik hgk hm boot_enumerate (PyProof.Rows.callWith_type1 (thn (ha.run pos pinsk s σ H _ Ik h) fun us s1k ⟨vs, H1k, I1k, r1k, q1k⟩ => ?_) hsk rfl))
  obtain ⟨a, xs, exk, hqk, q⟩ := q1k
  subst exk
  cases r1k with
  | cons r rr =>
    cases rr
    cases r
    obtain ⟨itsk, rvk, p', hzk⟩ := I1k.tuple hqk
    have p2 : s1k.heap.IsTuple a itsk.toArray := p'
    have hal : a < s1k.heap.objs.size := by obtain ⟨o, ho, _⟩ := p2; exact Heap.lt_size ho
    refine as_call_enum (begins_tuple a itsk.toArray) p2 fun h' hek hitk hszk hkk => wpAny_pyIter_enum hek ?_
    have I2k : Inv X pinsk σ H1k { s1k with heap := h' } := I1k.kept (t' := s1k.toks) hkk
    refine ⟨s1k.heap.objs.size + 1, [s1k.heap.objs.size + 1, s1k.heap.objs.size], _, _, H1k, rfl, I2k, turn_enumT a (s1k.heap.objs.size + 1) s1k.heap.objs.size, ⟨⟨.none, hek⟩, ⟨_, hitk, rfl, rfl⟩, Nat.succ_ne_self _, Nat.ne_of_lt hal, Nat.ne_of_lt (Nat.lt_succ_of_lt hal)⟩, fun b hbk => ?_, q⟩
    have ek' : b = s1k.heap.objs.size + 1 ∨ b = s1k.heap.objs.size := by simpa using hbk
    have hlek : s1k.heap.objs.size ≤ b := by
      rcases ek' with z | z
      · rw [z]; exact Nat.le_add_right _ _
      · rw [z]; exact Nat.le_refl _
    exact I1k.fpOk hlek (I1k.hok.fresh hlek)
theorem walk_enumT {K : PySem.W.Frag} {a : Addr} {xs : List V} : Walk (ItEt K a) xs.length (fun H => SqT K H a xs) (YPair (fun i => some (.int (i : Nat))) (fun i => xs[i]?)) where
  goes := fun i H hik h => ⟨xs, xs[i], h, List.getElem?_eq_getElem hik⟩
  stops := fun H h => ⟨xs, h, rfl⟩
  yields := fun i H x H' _ h y => by
    obtain ⟨T, z, e1, e2k, e3k, e4k⟩ := y
    exact ⟨T, _, z, e1, e2k, e3k, rfl, e4k xs h⟩
/-! ### in over a tuple of data -/
section
variable {X : Cx}
def rInDT (K : PySem.W.Frag) : R2 := fun x y H Q => ∃ d ds, Dp K H x d ∧ Dp K H y (.tuple ds) ∧ SeqAt.shaped d = true ∧ SeqAt.shaped (.tuple ds) = true ∧ Q (.bl (ds.any fun z => PyData.eqv z d)) H
def rNotInDT (K : PySem.W.Frag) : R2 := fun x y H Q => ∃ d ds, Dp K H x d ∧ Dp K H y (.tuple ds) ∧ SeqAt.shaped d = true ∧ SeqAt.shaped (.tuple ds) = true ∧ Q (.bl (!ds.any fun z => PyData.eqv z d)) H
theorem op_inDT (huk : X.A.units + 65 < cLine) : OpR X (compareOp .In) (rInDT X.K) := by
  intro pinsk s σ H x y v u Q Ik rxk ryk h
  obtain ⟨d, ds, hd, hek, sdk, sek, q⟩ := h
  obtain ⟨as, r1k⟩ := Dp.reads Ik d x v hd rxk
  obtain ⟨bs, r2⟩ := Dp.reads Ik (.tuple ds) y u hek ryk
  exact SeqAt.in_tuple_reads r2 r1k (SeqAt.canLay_of_shaped sek) (SeqAt.canLay_of_shaped sdk) (room_in_shaped sdk huk) ⟨.bl _, H, Ik, rfl, q⟩
theorem op_notInDT (huk : X.A.units + 65 < cLine) : OpR X (compareOp .NotIn) (rNotInDT X.K) := by
  intro pinsk s σ H x y v u Q Ik rxk ryk h
  obtain ⟨d, ds, hd, hek, sdk, sek, q⟩ := h
  obtain ⟨as, r1k⟩ := Dp.reads Ik d x v hd rxk
  obtain ⟨bs, r2⟩ := Dp.reads Ik (.tuple ds) y u hek ryk
  exact SeqAt.notIn_tuple_reads r2 r1k (SeqAt.canLay_of_shaped sek) (SeqAt.canLay_of_shaped sdk) (room_in_shaped sdk huk) ⟨.bl _, H, Ik, rfl, q⟩
end
end L2

namespace HT
open PySem PySem.Spec PyProof.Rows L2
section
variable {prog : Program} {w : World} {A : Around} {E : Value → Shared → Prop} {s : Shared}
theorem as_adjust_rev (n : Nat) : Builtin.Slice.sliceAdjust none none (-1) (n : Int) = ((n : Int) - 1, -1) := by
  unfold Builtin.Slice.sliceAdjust
  simp
theorem as_places_rev (n : Nat) : Builtin.Slice.slicePlaces ((n : Int) - 1) (-1) (-1) = n := by
  unfold Builtin.Slice.slicePlaces
  have h1 : ¬ ((-1 : Int) > 0) := by omega
  rw [if_neg h1]
  by_cases h : ((n : Int) - 1 > -1)
  · rw [if_pos h]
    have e : -(-1 : Int) = 1 := by omega
    rw [e, Int.ediv_one]
    omega
  · rw [if_neg h]
    omega
theorem as_sliceApplied_rev {sl : Addr} {vlk vuk vs : Value} {n : Nat} {Q : Int × Int × Nat → Shared → Prop} (hsk : s.heap.IsSliceOf sl vlk vuk vs) (pl : IsPart vlk none) (pu : IsPart vuk none) (ps : IsPart vs (some (-1)))
    (h : Q ((n : Int) - 1, -1, n) s) : wpAny (model prog w) A (Builtin.Slice.sliceApplied (.ref sl) (pure (n : Int))) Q E s := by
  obtain ⟨osk, hosk, hcsk, hdsk⟩ := id hsk
  unfold Builtin.Slice.sliceApplied Builtin.Slice.sliceFields
  refine wpAny_bind (wpAny_bind (wpAny_field hosk hdsk (x := vlk) rfl (wpAny_bind (wpAny_field hosk hdsk (x := vuk) rfl (wpAny_bind (wpAny_field hosk hdsk (x := vs) rfl (wpAny_pure ?_)))))))
  refine wpAny_bind (slicePart_ ps ?_)
  show wpAny _ _ (if ((-1 : Int) == 0) = true then _ else _) _ _ s
  rw [if_neg (by decide)]
  refine wpAny_bind (slicePart_ pl (wpAny_bind (slicePart_ pu (wpAny_bind (wpAny_pure ?_)))))
  show wpAny _ _ (match Builtin.Slice.sliceAdjust none none (-1) (n : Int) with | (lo, hik) => pure (lo, (-1 : Int), Builtin.Slice.slicePlaces lo hik (-1))) _ _ s
  rw [as_adjust_rev n]
  show wpAny _ _ (pure ((n : Int) - 1, (-1 : Int), Builtin.Slice.slicePlaces ((n : Int) - 1) (-1) (-1))) _ _ s
  rw [as_places_rev]
  exact wpAny_pure h
theorem as_pick_rev (xs : Array Value) : ((List.range xs.size).filterMap fun (m : Nat) => xs[((xs.size : Int) - 1 + (m : Int) * (-1)).toNat]?).toArray = xs.toList.reverse.toArray := by
  have e : (List.range xs.size).filterMap (fun (m : Nat) => xs[((xs.size : Int) - 1 + (m : Int) * (-1)).toNat]?) = ((List.range xs.size).map fun k => xs.size - 1 - k).filterMap (fun k => xs[k]?) := by
    rw [List.filterMap_map]
    congr 1
    funext m
    have : ((xs.size : Int) - 1 + (m : Int) * (-1)).toNat = xs.size - 1 - m := by omega
    simp only [this, Function.comp]
  rw [e, PySem.W.krv_range, List.filterMap_reverse, PySem.W.krv_all]
theorem as_getItem_rev {t sl : Addr} {items : Array Value} {vlk vuk vs : Value} {Q : Value → Shared → Prop} (htk : IsTup s.heap t items) (hsk : s.heap.IsSliceOf sl vlk vuk vs) (pl : IsPart vlk none) (pu : IsPart vuk none) (ps : IsPart vs (some (-1)))
    (h : Q (.ref s.heap.objs.size) { s with heap := s.heap.push { cls := .type "tuple", data := .seq items.toList.reverse.toArray } })
    (hszk : items.size ≤ sizeLine) : wpAny (model prog w) A (getItem (.ref t) (.ref sl)) Q E s := by
  have htakek : sizeOk (.seq items.toList.reverse.toArray) := by
    show items.toList.reverse.toArray.size ≤ sizeLine
    rw [List.size_toArray, List.length_reverse, Array.length_toList]
    exact hszk
  obtain ⟨osk, hosk, hcsk, hdsk⟩ := id hsk
  have hTsk : s.TypeIs (.ref sl) "slice" := ⟨osk, hosk, hcsk⟩
  unfold getItem
  try with_reducible refine wpAny_holding ?_
  first | refine wpAny_bind (wpAny_pure ?_) | skip
  refine wpAny_bind (wpAny_sequenceKey htk.typeIs (by decide) ?_)
  refine wpAny_bind (wpAny_callSpecial?_slot (name := Str.ofString "__getitem__") htk.typeIs PyProof.Rows.slot_tuple_getitem
    (wpAny_call_entry PyProof.Rows.slot_tuple_getitem htk.typeIs entry_tuple_getitem ?_ (args_tuple_getitem _ _)))
  show wpAny _ _ (Builtin.Tuple.tupleItemsOf (.ref t) >>= _) _ _ s
  refine wpAny_bind (tupleItemsOf_ htk ?_)
  refine wpAny_bind (wpAny_typeOf hTsk ?_)
  rw [if_pos (by decide)]
  refine wpAny_bind (as_sliceApplied_rev hsk pl pu ps ?_)
  have hno : ¬ ((((items.size : Int) - 1) == 0 && (-1 : Int) == 1 && items.size == items.size) = true) := by
    intro q
    rw [Bool.and_eq_true, Bool.and_eq_true] at q
    exact absurd (eq_of_beq q.1.2) (by decide)
  show wpAny _ _ (if (((items.size : Int) - 1) == 0 && (-1 : Int) == 1 && items.size == items.size) = true then _ else _) _ _ s
  rw [if_neg hno, as_pick_rev]
  first
    | exact wpAny_bind (m := Builtin.Tuple.tupleExact _) (wpAny_newObj_type (wpAny_pure ⟨_, rfl, wpAny_pure h⟩) htakek)
    | exact wpAny_bind (m := Builtin.Tuple.tupleExact _) (wpAny_newObj_type (wpAny_bind (wpAny_pure (wpAny_pure ⟨_, rfl, wpAny_pure h⟩))) htakek)
    | exact wpAny_bind (wpAny_bind (m := Builtin.Tuple.tupleExact _) (wpAny_newObj_type (wpAny_pure (wpAny_pure ⟨_, rfl, wpAny_pure h⟩)) htakek))
    | exact wpAny_bind (wpAny_bind (m := Builtin.Tuple.tupleExact _) (wpAny_newObj_type (wpAny_pure ⟨_, rfl, wpAny_pure h⟩) htakek))
end
end HT
namespace L2
open PySem PySem.Spec PyProof.Rows
section
variable {X : Cx}
def tRevT (K : PySem.W.Frag) (te : TE) : TE := fun σ H Q => te σ H fun x H1k => ∃ a xs, x = .ref a ∧ SqT K H1k a xs ∧ ∀ p, H1k p = none → Q (.ref p) (upd H1k p (.tup xs.reverse))
theorem pe_revT {e : Expr} {te : TE} {k : Nat} {p1 p2 p3 pos : Pos} (hek : PE X e te) : PE X (.Subscript e (.Slice none none (some (.UnaryOp .USub (.Constant (.int 1) k p1) p2)) p3) pos) (tRevT X.K te) := by
  refine ⟨fun pinsk s σ H Q Ik h => ?_⟩
  refine Subscript_ (thn (hek.run pinsk s σ H _ Ik h) fun v s1k ⟨x, H1k, I1k, r1k, q1k⟩ => ?_)
  obtain ⟨a, xs, exk, hxk, q⟩ := q1k
  subst exk
  cases r1k
  have hstk : PO X (some (.UnaryOp .USub (.Constant (.int 1) k p1) p2)) (tPart (tUn (rU fun i => .int (-i)) (tC (.int 1)))) := po_some (pe_un un_neg pe_int)
  refine wpAny_Slice (thn (po_none.run pinsk s1k σ H1k (fun o H2k => o = none ∧ H2k = H1k) I1k ⟨rfl, rfl⟩) fun vlk s2k ⟨l, H2k, I2k, pl, elk, e2k⟩ => ?_)
  subst elk e2k
  refine thn (po_none.run pinsk s2k σ H2k (fun o H3k => o = none ∧ H3k = H2k) I2k ⟨rfl, rfl⟩) fun vuk s3k ⟨u, H3k, I3, pu, euk, e3k⟩ => ?_
  subst euk e3k
  refine thn (hstk.run pinsk s3k σ H3k (fun o H4k => o = some (-1) ∧ H4k = H3k) I3 ⟨1, rfl, -1, rfl, rfl, rfl⟩) fun vs s4k ⟨o, H4k, I4, ps, eok, e4k⟩ => ?_
  subst eok e4k
  have I5k : Inv X pinsk σ H4k { s4k with heap := s4k.heap.push { cls := .type "slice", data := .fields #[vlk, vuk, vs] } } := I4.kept (t' := s4k.toks) fun b ob q => Heap.get?_push_of_some _ q
  obtain ⟨itsk, r, htk, hzk⟩ := I5k.tuple hxk
  have hlen := r.length
  show wpAny (model X.prog X.w) X.A (subscriptTail e (.Slice none none (some (.UnaryOp .USub (.Constant (.int 1) k p1) p2)) p3) (.ref a) (.ref s4k.heap.objs.size)) (EP X pinsk σ Q) X.xe { s4k with heap := s4k.heap.push { cls := .type "slice", data := .fields #[vlk, vuk, vs] } }
  refine tail_any (ops := [.ref a, .ref s4k.heap.objs.size]) htk.typeIs (PyProof.Rows.slot_tuple_getitem.lookup) ?_ (by with_unfolding_all rfl)
  refine HT.as_getItem_rev htk (Heap.IsSliceOf.new _ vlk vuk vs) pl pu ps ?_ (by rw [List.size_toArray]; omega)
  refine ⟨.ref _, _, I5k.laid (t' := s4k.toks) (o := .tup xs.reverse) (fun b ob q => Heap.get?_push_of_some _ q) (Nat.le_refl _) ?_, rfl, q _ (I5k.hok.fresh (Nat.le_refl _))⟩
  exact ⟨by rw [List.length_reverse]; exact hzk, _, r.reverse, ⟨_, Heap.get?_push_size _ rfl, rfl, _, rfl⟩⟩
end
end L2

namespace As
open PySem PySem.Spec PyProof.Rows L2
/-! ### heaps: all but the well of draws stays -/
def ExS (st : Addr) (H H' : Hp) : Prop := ∀ a o, a ≠ st → H a = some o → H' a = some o
theorem ExS.refl (st : Addr) (H : Hp) : ExS st H H := fun _ _ _ h => h
theorem ExS.trans {st : Addr} {H H1 H2 : Hp} (a : ExS st H H1) (b : ExS st H1 H2) : ExS st H H2 := fun x o n h => b x o n (a x o n h)
theorem ExS.of {st : Addr} {H H' : Hp} (e : Same H H') : ExS st H H' := fun a o _ h => e a o h
theorem same_new {H : Hp} {p : Addr} {o : HO} (h : H p = none) : Same H (upd H p o) := fun a u e => by
  rw [upd_ne (ne_of_none e h)]
  exact e
theorem ExS.new {st : Addr} {H : Hp} {p : Addr} {o : HO} (h : H p = none) : ExS st H (upd H p o) := .of (same_new h)
theorem ExS.at_ {st : Addr} {H : Hp} {o : HO} : ExS st H (upd H st o) := fun a u n e => by
  rw [upd_ne n]
  exact e
theorem Same.new {H H' : Hp} {p : Addr} {o : HO} (e : Same H H') (h : H' p = none) : Same H (upd H' p o) := Same.trans e (same_new h)
theorem Same.mut {H H' : Hp} {p : Addr} {o : HO} (e : Same H H') (h : H p = none) : Same H (upd H' p o) := fun a u ha => by
  rw [upd_ne (ne_of_none ha h)]
  exact e a u ha
theorem ExS.seq {K : PySem.W.Frag} {st : Addr} {H H' : Hp} {a : Addr} {xs : List V} (n : a ≠ st) (e : ExS st H H') (h : SqL K H a xs) : SqL K H' a xs := by
  rcases h with (h | ⟨o, h⟩) | h
  · exact .inl (.inl (e _ _ n h))
  · exact .inl (.inr ⟨o, e _ _ n h⟩)
  · exact .inr h
/-! ### data -/
inductive D where
  | non
  | bl (b : Bool)
  | int (i : Int)
  | str (z : Str)
  | tup (ds : List D)
  | lst (ds : List D)
  | dct
mutual
inductive TD (st : Addr) (H : Hp) : V → D → Prop
  | non : TD st H .non .non
  | bl (b : Bool) : TD st H (.bl b) (.bl b)
  | int (i : Int) : TD st H (.int i) (.int i)
  | str (z : Str) : TD st H (.str z) (.str z)
  | tup {a : Addr} {xs : List V} {ds : List D} : a ≠ st → H a = some (.tup xs) → TDs st H xs ds → TD st H (.ref a) (.tup ds)
  | lst {a : Addr} {xs : List V} {ds : List D} : a ≠ st → H a = some (.lst xs) → TDs st H xs ds → TD st H (.ref a) (.lst ds)
  | dct {a : Addr} : a ≠ st → H a = some (.dK []) → TD st H (.ref a) .dct
inductive TDs (st : Addr) (H : Hp) : List V → List D → Prop
  | nil : TDs st H [] []
  | cons {v : V} {vs : List V} {d : D} {ds : List D} : TD st H v d → TDs st H vs ds → TDs st H (v :: vs) (d :: ds)
end
mutual
theorem TD.mono {st : Addr} {H H' : Hp} (e : ExS st H H') : ∀ {v : V} {d : D}, TD st H v d → TD st H' v d
  | _, _, .non => .non
  | _, _, .bl b => .bl b
  | _, _, .int i => .int i
  | _, _, .str z => .str z
  | _, _, .tup n h t => .tup n (e _ _ n h) (TDs.mono e t)
  | _, _, .lst n h t => .lst n (e _ _ n h) (TDs.mono e t)
  | _, _, .dct n h => .dct n (e _ _ n h)
theorem TDs.mono {st : Addr} {H H' : Hp} (e : ExS st H H') : ∀ {vs : List V} {ds : List D}, TDs st H vs ds → TDs st H' vs ds
  | _, _, .nil => .nil
  | _, _, .cons h t => .cons (TD.mono e h) (TDs.mono e t)
end
theorem TDs.length {st : Addr} {H : Hp} : ∀ {vs : List V} {ds : List D}, TDs st H vs ds → vs.length = ds.length
  | _, _, .nil => rfl
  | _, _, .cons _ t => congrArg (· + 1) t.length
theorem TDs.get {st : Addr} {H : Hp} : ∀ {vs : List V} {ds : List D} {i : Nat} {v : V}, TDs st H vs ds → vs[i]? = some v → ∃ d, ds[i]? = some d ∧ TD st H v d
  | _, _, i, _, .nil, h => by simp at h
  | _, _, 0, _, .cons h _, e => by
    have e' := Option.some.inj e
    subst e'
    exact ⟨_, rfl, h⟩
  | _, _, i + 1, _, .cons _ t, e => t.get (i := i) e
theorem TDs.append {st : Addr} {H : Hp} : ∀ {vs ws : List V} {ds es : List D}, TDs st H vs ds → TDs st H ws es → TDs st H (vs ++ ws) (ds ++ es)
  | _, _, _, _, .nil, h => h
  | _, _, _, _, .cons h t, r => .cons h (t.append r)
theorem TDs.drop {st : Addr} {H : Hp} : ∀ {vs : List V} {ds : List D} (n : Nat), TDs st H vs ds → TDs st H (vs.drop n) (ds.drop n)
  | _, _, 0, h => h
  | _, _, _ + 1, .nil => .nil
  | _, _, n + 1, .cons _ t => t.drop n
theorem TDs.take {st : Addr} {H : Hp} : ∀ {vs : List V} {ds : List D} (n : Nat), TDs st H vs ds → TDs st H (vs.take n) (ds.take n)
  | _, _, 0, _ => .nil
  | _, _, _ + 1, .nil => .nil
  | _, _, n + 1, .cons h t => .cons h (t.take n)
theorem TDs.rev {st : Addr} {H : Hp} : ∀ {vs : List V} {ds : List D}, TDs st H vs ds → TDs st H vs.reverse ds.reverse
  | _, _, .nil => .nil
  | _, _, .cons h t => by
    rw [List.reverse_cons, List.reverse_cons]
    exact t.rev.append (.cons h .nil)
theorem TDs.rep {st : Addr} {H : Hp} {v : V} {d : D} (h : TD st H v d) : ∀ n : Nat, TDs st H (List.replicate n v) (List.replicate n d)
  | 0 => .nil
  | n + 1 => .cons h (TDs.rep h n)
theorem TDs.cut {st : Addr} {H : Hp} {vs : List V} {ds : List D} (lo hi : Option Int) (h : TDs st H vs ds) : ∃ es, TDs st H (cutV vs lo hi) es := ⟨_, (h.drop _).take _⟩
def tyD : D → String
  | .non => "NoneType"
  | .bl _ => "bool"
  | .int _ => "int"
  | .str _ => "str"
  | .tup _ => "tuple"
  | .lst _ => "list"
  | .dct => "dict"
theorem TD.ty {K : PySem.W.Frag} {st : Addr} {H : Hp} {v : V} {d : D} (h : TD st H v d) : TyX K H v (.type (tyD d)) := by
  cases h with
  | non => exact .base .non
  | bl b => exact .base (.bl b)
  | int i => exact .base (.int i)
  | str z => exact .base (.str z)
  | tup n h t => exact .base (.tup h)
  | lst n h t => exact .base (.lst h)
  | dct n h => exact .base (.dK h)
def isInt : D → Bool
  | .bl _ => true
  | .int _ => true
  | _ => false
def isBool : D → Bool
  | .bl _ => true
  | _ => false
def isStr : D → Bool
  | .str _ => true
  | _ => false
def isTup : D → Bool
  | .tup _ => true
  | _ => false
def isLst : D → Bool
  | .lst _ => true
  | _ => false
theorem kit_int (d : D) : kitB (tyD d) "int" = some (isInt d) := by
  cases d with
  | non => exact (show kitB "NoneType" "int" = some false by decide +kernel)
  | bl _ => exact (show kitB "bool" "int" = some true by decide +kernel)
  | int _ => exact (show kitB "int" "int" = some true by decide +kernel)
  | str _ => exact (show kitB "str" "int" = some false by decide +kernel)
  | tup _ => exact (show kitB "tuple" "int" = some false by decide +kernel)
  | lst _ => exact (show kitB "list" "int" = some false by decide +kernel)
  | dct => exact (show kitB "dict" "int" = some false by decide +kernel)
theorem kit_bool (d : D) : kitB (tyD d) "bool" = some (isBool d) := by
  cases d with
  | non => exact (show kitB "NoneType" "bool" = some false by decide +kernel)
  | bl _ => exact (show kitB "bool" "bool" = some true by decide +kernel)
  | int _ => exact (show kitB "int" "bool" = some false by decide +kernel)
  | str _ => exact (show kitB "str" "bool" = some false by decide +kernel)
  | tup _ => exact (show kitB "tuple" "bool" = some false by decide +kernel)
  | lst _ => exact (show kitB "list" "bool" = some false by decide +kernel)
  | dct => exact (show kitB "dict" "bool" = some false by decide +kernel)
theorem kit_str (d : D) : kitB (tyD d) "str" = some (isStr d) := by
  cases d with
  | non => exact (show kitB "NoneType" "str" = some false by decide +kernel)
  | bl _ => exact (show kitB "bool" "str" = some false by decide +kernel)
  | int _ => exact (show kitB "int" "str" = some false by decide +kernel)
  | str _ => exact (show kitB "str" "str" = some true by decide +kernel)
  | tup _ => exact (show kitB "tuple" "str" = some false by decide +kernel)
  | lst _ => exact (show kitB "list" "str" = some false by decide +kernel)
  | dct => exact (show kitB "dict" "str" = some false by decide +kernel)
theorem kit_tup (d : D) : kitB (tyD d) "tuple" = some (isTup d) := by
  cases d with
  | non => exact (show kitB "NoneType" "tuple" = some false by decide +kernel)
  | bl _ => exact (show kitB "bool" "tuple" = some false by decide +kernel)
  | int _ => exact (show kitB "int" "tuple" = some false by decide +kernel)
  | str _ => exact (show kitB "str" "tuple" = some false by decide +kernel)
  | tup _ => exact (show kitB "tuple" "tuple" = some true by decide +kernel)
  | lst _ => exact (show kitB "list" "tuple" = some false by decide +kernel)
  | dct => exact (show kitB "dict" "tuple" = some false by decide +kernel)
theorem kit_lst (d : D) : kitB (tyD d) "list" = some (isLst d) := by
  cases d with
  | non => exact (show kitB "NoneType" "list" = some false by decide +kernel)
  | bl _ => exact (show kitB "bool" "list" = some false by decide +kernel)
  | int _ => exact (show kitB "int" "list" = some false by decide +kernel)
  | str _ => exact (show kitB "str" "list" = some false by decide +kernel)
  | tup _ => exact (show kitB "tuple" "list" = some false by decide +kernel)
  | lst _ => exact (show kitB "list" "list" = some true by decide +kernel)
  | dct => exact (show kitB "dict" "list" = some false by decide +kernel)
theorem isi {K : PySem.W.Frag} {st : Addr} {H : Hp} {v : V} {d : D} {n : String} {b : Bool} {Q : VK} (h : TD st H v d) (k : kitB (tyD d) n = some b) (q : Q (.bl b) H) : rIsi K [v, .ty n] H Q :=
  ⟨v, .ty n, _, _, b, rfl, .ty n, h.ty, kit_ty k, q⟩
/-! ### steps -/
abbrev Pr := Str × Int
def stepD (p : Pr) : D := .tup [.str p.1, .int p.2]
def wR : Str := "read"
def wW : Str := "write"
def wordB (z : Str) : Bool := decide (z = wR) || decide (z = wW)
def boxB (i : Int) : Bool := decide (0 ≤ i) && decide (i ≤ 100000000)
def asPr : D → Option Pr
  | .tup [.str z, .int i] => if wordB z && boxB i then some (z, i) else none
  | _ => none
def isStep (d : D) : Bool := (asPr d).isSome
theorem asPr_some {d : D} {p : Pr} (h : asPr d = some p) : d = stepD p ∧ wordB p.1 = true ∧ boxB p.2 = true := by
  unfold asPr at h
  split at h
  · split at h
    · rename_i z i hc
      have e := Option.some.inj h
      subst e
      rw [Bool.and_eq_true] at hc
      exact ⟨rfl, hc.1, hc.2⟩
    · cases h
  · cases h
theorem asPr_step {p : Pr} (h1 : wordB p.1 = true) (h2 : boxB p.2 = true) : asPr (stepD p) = some p := by
  show (if (wordB p.1 && boxB p.2) = true then some (p.1, p.2) else none) = some p
  rw [h1, h2]
  rfl
/-- the place of a step among those ahead: what the program asks, and what the law does -/
def mayP (p : Pr) (l : List Pr) : Bool := !decide (p ∈ l) && !decide ((wW, p.2) ∈ l)
def mayL (p : Pr) (l : List Pr) : Bool := !decide (p ∈ l) && !(decide (p.1 = wR) && decide ((wW, p.2) ∈ l))
theorem may_eq {p : Pr} (h : wordB p.1 = true) (l : List Pr) : mayP p l = mayL p l := by
  unfold mayP mayL
  obtain ⟨z, i⟩ := p
  unfold wordB at h
  rw [Bool.or_eq_true, decide_eq_true_eq, decide_eq_true_eq] at h
  rcases h with h | h
  · have h' : z = wR := h
    subst h'
    rw [decide_eq_true (show (wR, i).1 = wR from rfl), Bool.true_and]
  · have h' : z = wW := h
    subst h'
    have n : ¬ (wW = wR) := by decide
    rw [decide_eq_false (show ¬ (wW, i).1 = wR from n), Bool.false_and]
    cases hd : decide ((wW, i) ∈ l) <;> simp_all
/-- the pairs of a list of steps -/
def prs : List D → Option (List Pr)
  | [] => some []
  | d :: ds => match asPr d, prs ds with
    | some p, some l => some (p :: l)
    | _, _ => none
theorem prs_some : ∀ {ds : List D} {l : List Pr}, prs ds = some l → ds = l.map stepD ∧ (∀ p ∈ l, wordB p.1 = true ∧ boxB p.2 = true)
  | [], l, h => by
    have e : [] = l := Option.some.inj h
    subst e
    exact ⟨rfl, fun p hp => by cases hp⟩
  | d :: ds, l, h => by
    unfold prs at h
    split at h
    · rename_i p r h1 h2
      have e := Option.some.inj h
      subst e
      obtain ⟨e1, w1, b1⟩ := asPr_some h1
      obtain ⟨e2, w2⟩ := prs_some h2
      refine ⟨by rw [e1, e2]; rfl, fun q hq => ?_⟩
      rcases List.mem_cons.mp hq with e | e
      · rw [e]; exact ⟨w1, b1⟩
      · exact w2 q e
    · cases h
theorem prs_isSome : ∀ ds : List D, (prs ds).isSome = ds.all isStep
  | [] => rfl
  | d :: ds => by
    have ih := prs_isSome ds
    rw [List.all_cons, ← ih]
    show (match asPr d, prs ds with | some p, some l => some (p :: l) | _, _ => none).isSome = (isStep d && (prs ds).isSome)
    cases h1 : asPr d with
    | none =>
      have e : isStep d = false := by unfold isStep; rw [h1]; rfl
      rw [e, Bool.false_and]
      rfl
    | some p =>
      have e : isStep d = true := by unfold isStep; rw [h1]; rfl
      rw [e, Bool.true_and]
      cases h2 : prs ds with
      | none => rfl
      | some l => rfl
theorem prs_of {l : List Pr} (h : ∀ p ∈ l, wordB p.1 = true ∧ boxB p.2 = true) : prs (l.map stepD) = some l := by
  induction l with
  | nil => rfl
  | cons p l ih =>
    have hp := h p (List.mem_cons_self ..)
    rw [List.map_cons]
    unfold prs
    rw [asPr_step hp.1 hp.2, ih fun q hq => h q (List.mem_cons_of_mem _ hq)]
/-- all places may follow -/
def follow (m : Pr → List Pr → Bool) (l : List Pr) : Bool := (List.range l.length).all fun i => match l[i]? with
  | some p => m p (l.take i)
  | none => true
def isDealing : D → Bool
  | .tup ds => decide (1 ≤ ds.length) && decide (ds.length ≤ 8) && match prs ds with
    | some l => follow mayP l
    | none => false
  | _ => false
def areDealings : D → Bool
  | .lst ds => decide (1 ≤ ds.length) && decide (ds.length ≤ 100) && ds.all isDealing
  | _ => false
/-! ### steps as the library's data -/
def stepP (p : Pr) : PyData := .tuple [.str p.1, .int p.2]
theorem word_ok {z : Str} (h : wordB z = true) : PyData.strOk z = true := by
  unfold wordB at h
  rw [Bool.or_eq_true, decide_eq_true_eq, decide_eq_true_eq] at h
  rcases h with h | h
  · subst h; decide +kernel
  · subst h; decide +kernel
theorem stepP_lay {p : Pr} (h : wordB p.1 = true) : (stepP p).canLay0 = true := by simp [stepP, PyData.canLay0, PyData.canLayAll0, word_ok h]
theorem stepP_depth (p : Pr) : (stepP p).depth = 1 := by simp [stepP, PyData.depth, PyData.depthAll]
theorem stepPs_lay : ∀ {l : List Pr}, (∀ p ∈ l, wordB p.1 = true) → PyData.canLayAll0 (l.map stepP) = true
  | [], _ => by simp [PyData.canLayAll0]
  | p :: l, h => by simp [PyData.canLayAll0, stepP_lay (h p (List.mem_cons_self ..)), stepPs_lay fun q hq => h q (List.mem_cons_of_mem _ hq)]
theorem stepPs_depth : ∀ l : List Pr, PyData.depthAll (l.map stepP) ≤ 1
  | [] => by simp [PyData.depthAll]
  | p :: l => by
    have h1 := stepPs_depth l
    have h2 := stepP_depth p
    simp only [List.map_cons, PyData.depthAll]
    omega
theorem stepP_shaped {p : Pr} (hw : wordB p.1 = true) : SeqAt.shaped (stepP p) = true := by
  have h := stepP_depth p
  show ((stepP p).canLay0 && decide ((stepP p).depth ≤ 64)) = true
  rw [Bool.and_eq_true]
  exact ⟨stepP_lay hw, decide_eq_true (by omega)⟩
theorem stepPs_shapedT {l : List Pr} (hw : ∀ p ∈ l, wordB p.1 = true) : SeqAt.shaped (.tuple (l.map stepP)) = true := by
  have h1 := stepPs_depth l
  have h2 : PyData.depth (.tuple (l.map stepP)) ≤ 64 := by
    simp only [PyData.depth]
    omega
  show (PyData.canLay0 (.tuple (l.map stepP)) && decide (PyData.depth (.tuple (l.map stepP)) ≤ 64)) = true
  rw [Bool.and_eq_true]
  exact ⟨by simp only [PyData.canLay0]; exact stepPs_lay hw, decide_eq_true h2⟩
theorem stepPs_shapedL {l : List Pr} (hw : ∀ p ∈ l, wordB p.1 = true) : SeqAt.shaped (.list (l.map stepP)) = true := by
  have h1 := stepPs_depth l
  have h2 : PyData.depth (.list (l.map stepP)) ≤ 64 := by
    simp only [PyData.depth]
    omega
  show (PyData.canLay0 (.list (l.map stepP)) && decide (PyData.depth (.list (l.map stepP)) ≤ 64)) = true
  rw [Bool.and_eq_true]
  exact ⟨by simp only [PyData.canLay0]; exact stepPs_lay hw, decide_eq_true h2⟩
theorem stepP_eqv (p q : Pr) : PyData.eqv (stepP p) (stepP q) = decide (p = q) := by
  obtain ⟨z, i⟩ := p
  obtain ⟨y, j⟩ := q
  have e : PyData.eqv (stepP (z, i)) (stepP (y, j)) = ((z == y) && ((i == j) && true)) := by simp only [stepP, PyData.eqv, PyData.eqvAll]
  rw [e]
  by_cases h1 : z = y
  · by_cases h2 : i = j
    · subst h1 h2
      simp
    · have q : (i == j) = false := beq_eq_false_iff_ne.mpr h2
      rw [q, Bool.false_and, Bool.and_false, decide_eq_false]
      intro z
      exact h2 (Prod.mk.inj z).2
  · have q : (z == y) = false := beq_eq_false_iff_ne.mpr h1
    rw [q, Bool.false_and, decide_eq_false]
    intro z
    exact h1 (Prod.mk.inj z).1
theorem any_step (l : List Pr) (p : Pr) : ((l.map stepP).any fun z => PyData.eqv z (stepP p)) = decide (p ∈ l) := by
  induction l with
  | nil => simp
  | cons q l ih =>
    rw [List.map_cons, List.any_cons, ih, stepP_eqv]
    by_cases h1 : q = p
    · subst h1
      simp
    · have h1' : ¬ p = q := fun e => h1 e.symm
      rw [decide_eq_false h1, Bool.false_or]
      exact decide_eq_decide.mpr ⟨fun h => List.mem_cons_of_mem _ h, fun h => (List.mem_cons.mp h).resolve_left h1'⟩
theorem TD.stepDp {K : PySem.W.Frag} {st : Addr} {H : Hp} {v : V} {p : Pr} (h : TD st H v (stepD p)) : Dp K H v (stepP p) := by
  cases h with
  | tup n h t =>
    cases t with
    | cons h1 t =>
      cases t with
      | cons h2 t =>
        cases t
        cases h1
        cases h2
        exact .tup (.inl (.inl h)) (.cons (.str _) (.cons (.int _) .nil))
theorem TDs.stepsDp {K : PySem.W.Frag} {st : Addr} {H : Hp} : ∀ {l : List Pr} {vs : List V}, TDs st H vs (l.map stepD) → DpAll K H vs (l.map stepP)
  | [], _, h => by
    cases h
    exact .nil
  | p :: l, _, h => by
    cases h with
    | cons h t => exact .cons h.stepDp t.stepsDp
theorem TD.stepV {st : Addr} {H : Hp} {v : V} {p : Pr} (h : TD st H v (stepD p)) : ∃ b, v = .ref b ∧ b ≠ st ∧ H b = some (.tup [.str p.1, .int p.2]) := by
  cases h with
  | @tup b ys _ n h t =>
    cases t with
    | cons h1 t =>
      cases t with
      | cons h2 t =>
        cases t
        cases h1
        cases h2
        exact ⟨b, rfl, n, h⟩
theorem TDs.stepsT {st : Addr} {H H' : Hp} (e : ∀ a ys, a ≠ st → H a = some (.tup ys) → H' a = some (.tup ys)) : ∀ {l : List Pr} {vs : List V}, TDs st H vs (l.map stepD) → TDs st H' vs (l.map stepD)
  | [], _, h => by
    cases h
    exact .nil
  | p :: l, _, h => by
    cases h with
    | cons h t =>
      obtain ⟨b, rfl, n, hb⟩ := h.stepV
      exact .cons (.tup n (e _ _ n hb) (.cons (.str _) (.cons (.int _) .nil))) (t.stepsT e)
end As

namespace As
open PySem PySem.Spec PyProof.Rows L2
theorem hu65 {A : Around} {k : Nat} (hr : Room k A) : A.units + 65 < cLine := by have := hr.un; omega
theorem sl_of {n : Nat} (h : n ≤ 100000) : n ≤ sizeLine := Nat.le_trans h (by decide)
theorem sl_lt {n : Nat} (h : n < 100000) : n < sizeLine := Nat.lt_of_lt_of_le h (by decide)
def kept (n : Nat) (t : Nat → Bool) (f : Nat → V) : List V := ((List.range n).filter t).map f
theorem kept_succ (n : Nat) (t : Nat → Bool) (f : Nat → V) : kept (n + 1) t f = kept n t f ++ (if t n then [f n] else []) := by
  unfold kept
  rw [List.range_succ, List.filter_append, List.map_append]
  cases h : t n <;> simp [h]
theorem kept_len (n : Nat) (t : Nat → Bool) (f : Nat → V) : (kept n t f).length ≤ n := by
  unfold kept
  rw [List.length_map]
  have h := List.length_filter_le t (List.range n)
  rw [List.length_range] at h
  exact h
theorem kept_all (n : Nat) (f : Nat → V) : kept n (fun _ => true) f = (List.range n).map f := by
  unfold kept
  congr 1
  exact List.filter_eq_self.mpr fun _ _ => rfl
/-- a comprehension that changes nothing that was there: what it keeps -/
theorem lc_kept {J : It} {n : Nat} {G : Hp → Prop} {Y : Nat → Hp → V → Hp → Prop} (w : Walk J n G Y) {g : TG} {tt : TT} {te : TE} {vs : List Nat} {σ : L2.St} {H1 : Hp} {D : Addr} {Qd : Hp → Prop} (t : Nat → Bool) (f : Nat → V) (hD : H1 D = none) (hn : n ≤ 10000) (hG : ∀ H, Same H1 H → G H)
    (hs : ∀ i x H H' (N : Hp → Prop) (R : VK), i < n → Same H1 H → Y i H x H' → (t i = false → ∀ H'', Same H H'' → N H'') → (t i = true → ∀ H'', Same H H'' → R (f i) H'') →
      g x (wipe σ vs) H' fun σ2 H2 => wipe σ2 vs = wipe σ vs ∧ tt σ2 H2 fun b H3 => if b = true then te σ2 H3 R else N H3)
    (hd : ∀ H, Same H1 H → H D = some (.lst (kept n t f)) → Qd H) :
    ∃ W : Nat → Nat → Hp → Prop, (∃ m, W 0 m (upd H1 D (.lst []))) ∧ ∀ i m H, W i m H →
      (J.stop i H ∧ Qd H) ∨ (J.go i H ∧ ∃ Nx : Hp → Prop, (∀ H', Nx H' → ∃ m', m' < m ∧ W (i + 1) m' H') ∧ ∀ x H', J.yld i H x H' → g x (wipe σ vs) H' fun σ2 H2 => wipe σ2 vs = wipe σ vs ∧ tt σ2 H2 fun b H3 =>
        if b = true then te σ2 H3 fun y H4 => ∃ acc, H4 D = some (.lst acc) ∧ acc.length < sizeLine ∧ Nx (upd H4 D (.lst (acc ++ [y]))) else Nx H3) := by
  refine lc_it w (fun i H => Same H1 H ∧ H D = some (.lst (kept i t f))) ⟨same_new hD, upd_same⟩ (fun i H _ p => hG H p.1) (fun i x H H' hi p y => ?_) (fun H p => hd H p.1 p.2)
  obtain ⟨p1, p2⟩ := p
  refine hs i x H H' _ _ hi p1 y (fun ht H'' e => ⟨Same.trans p1 e, ?_⟩) (fun ht H'' e => ⟨kept i t f, e _ _ p2, sl_lt (by have := kept_len i t f; omega), Same.mut (Same.trans p1 e) hD, ?_⟩)
  · rw [kept_succ, ht, if_neg Bool.false_ne_true, List.append_nil]
    exact e _ _ p2
  · rw [kept_succ, ht, if_pos rfl]
    exact upd_same
theorem yesI {te : TE} {σ : L2.St} {H : Hp} {R : VK} {N : Hp → Prop} (h : te σ H R) : tYes σ H fun b H3 => if b = true then te σ H3 R else N H3 := by
  show if true = true then te σ H R else N H
  exact iteT h
theorem isDealing_eq (ds : List D) : isDealing (.tup ds) = (decide (1 ≤ ds.length) && decide (ds.length ≤ 8) && match prs ds with | some l => follow mayP l | none => false) := rfl
theorem areDealings_eq (ds : List D) : areDealings (.lst ds) = (decide (1 ≤ ds.length) && decide (ds.length ≤ 100) && ds.all isDealing) := rfl
end As

namespace As
open PySem PySem.Spec PyProof.Rows L2
theorem follow_get {m : Pr → List Pr → Bool} {l : List Pr} (h : follow m l = true) {i : Nat} {p : Pr} (hp : l[i]? = some p) : m p (l.take i) = true := by
  unfold follow at h
  rw [List.all_eq_true] at h
  have := h i (List.mem_range.mpr (List.getElem?_eq_some_iff.mp hp).1)
  rw [hp] at this
  exact this
theorem follow_mk {m : Pr → List Pr → Bool} {l : List Pr} (h : ∀ i p, l[i]? = some p → m p (l.take i) = true) : follow m l = true := by
  unfold follow
  rw [List.all_eq_true]
  intro i _
  cases hp : l[i]? with
  | none => rfl
  | some p => exact h i p hp
theorem follow_snoc {m : Pr → List Pr → Bool} {l : List Pr} {p : Pr} (h : follow m l = true) (hp : m p l = true) : follow m (l ++ [p]) = true := by
  refine follow_mk fun i q hq => ?_
  by_cases hi : i < l.length
  · rw [List.getElem?_append_left hi] at hq
    rw [List.take_append_of_le_length (by omega)]
    exact follow_get h hq
  · have ei : i = l.length := by
      have h1 := (List.getElem?_eq_some_iff.mp hq).1
      rw [List.length_append] at h1
      have h2 : ([p] : List Pr).length = 1 := rfl
      omega
    subst ei
    rw [List.getElem?_append_right (Nat.le_refl _), Nat.sub_self] at hq
    have e : p = q := Option.some.inj hq
    subst e
    rw [List.take_append_of_le_length (Nat.le_refl _), List.take_of_length_le (Nat.le_refl _)]
    exact hp
/-- at most two steps of a box -/
theorem two_of_box {m : List Pr} (hf : follow mayP m = true) (hw : ∀ p ∈ m, wordB p.1 = true) (b : Int) (t : Pr → Bool) (ht : ∀ q, t q = true → q.2 = b) : (m.filter t).length ≤ 2 := by
  have nd : m.Pairwise (fun p q => p ≠ q) := by
    rw [List.pairwise_iff_getElem]
    intro i j hi hj hij e
    have h1 := follow_get hf (List.getElem?_eq_getElem hj)
    unfold mayP at h1
    rw [Bool.and_eq_true, Bool.not_eq_true', decide_eq_false_iff_not] at h1
    refine h1.1 ?_
    rw [← e]
    exact List.mem_take_iff_getElem.mpr ⟨i, by omega, rfl⟩
  have nf := nd.filter t
  have mem : ∀ q ∈ m.filter t, q = (wR, b) ∨ q = (wW, b) := fun q hq => by
    have h1 := List.mem_filter.mp hq
    have h2 := ht q h1.2
    have h3 := hw q h1.1
    unfold wordB at h3
    rw [Bool.or_eq_true, decide_eq_true_eq, decide_eq_true_eq] at h3
    rcases h3 with h3 | h3
    · exact .inl (Prod.ext h3 h2)
    · exact .inr (Prod.ext h3 h2)
  match hF : m.filter t, nf, mem with
  | [], _, _ => exact Nat.zero_le _
  | [_], _, _ => exact (by decide : 1 ≤ 2)
  | [_, _], _, _ => exact Nat.le_refl 2
  | x :: y :: z :: r, nf, mem =>
    exfalso
    rw [List.pairwise_cons, List.pairwise_cons] at nf
    obtain ⟨n1, n2, _⟩ := nf
    have xy := n1 y (by simp)
    have xz := n1 z (by simp)
    have yz := n2 z (by simp)
    have mx := mem x (by simp)
    have my := mem y (by simp)
    have mz := mem z (by simp)
    rcases mx with mx | mx <;> rcases my with my | my <;> rcases mz with mz | mz <;> simp_all
end As

namespace As
open PySem PySem.Spec PyProof.Rows L2
def topS (i : Nat) : Stmt := PySem.Challenge.pw_asifalone_k03_dealings_as_texts.main.body.getD i (.Pass ⟨0, 0, 0, 0⟩)
abbrev sIsWhole : Stmt := topS 11
abbrev sIsNumber : Stmt := topS 12
abbrev sIsBox : Stmt := topS 13
abbrev sIsOneOf : Stmt := topS 14
abbrev sIsStep : Stmt := topS 15
abbrev sMayFollow : Stmt := topS 16
abbrev sIsDealing : Stmt := topS 17
theorem scIsWhole : FnScope ["thing"] ["thing"] (defScope sIsWhole) := ⟨rfl, rfl, rfl, by decide +kernel, rfl, by decide +kernel, by decide +kernel⟩
theorem scIsNumber : FnScope ["thing", "many"] ["thing", "many"] (defScope sIsNumber) := ⟨rfl, rfl, rfl, by decide +kernel, rfl, by decide +kernel, by decide +kernel⟩
theorem scIsBox : FnScope ["thing"] ["thing"] (defScope sIsBox) := ⟨rfl, rfl, rfl, by decide +kernel, rfl, by decide +kernel, by decide +kernel⟩
theorem scIsOneOf : FnScope ["thing", "words"] ["thing", "words"] (defScope sIsOneOf) := ⟨rfl, rfl, rfl, by decide +kernel, rfl, by decide +kernel, by decide +kernel⟩
theorem scIsStep : FnScope ["thing"] ["thing"] (defScope sIsStep) := ⟨rfl, rfl, rfl, by decide +kernel, rfl, by decide +kernel, by decide +kernel⟩
theorem scMayFollow : FnScope ["step", "ahead"] ["step", "ahead"] (defScope sMayFollow) := ⟨rfl, rfl, rfl, by decide +kernel, rfl, by decide +kernel, by decide +kernel⟩
theorem scIsDealing : FnScope ["thing", "step", "place"] ["thing"] (defScope sIsDealing) := ⟨rfl, rfl, rfl, by decide +kernel, rfl, by decide +kernel, by decide +kernel⟩
/-- what the module's names hold -/
structure Mg (mg : Str → Option Value) : Prop where
  isinstance : mg "isinstance" = none
  int : mg "int" = none
  bool : mg "bool" = none
  str : mg "str" = none
  tuple : mg "tuple" = none
  list : mg "list" = none
  len : mg "len" = none
  all : mg "all" = none
  enumerate : mg "enumerate" = none
  range : mg "range" = none
  max : mg "max" = none
  min : mg "min" = none
  box : ∃ t, mg "MOST_BOX" = some (.int 100000000 t)
  steps : ∃ t, mg "MOST_STEPS" = some (.int 8 t)
  figures : ∃ t, mg "MOST_FIGURES" = some (.int 9 t)
section
variable {P : Program} {w : World} {K : PySem.W.Frag} {mg : Str → Option Value} {base : Heap}
/-! ### is_whole -/
def wholeB (d : D) : Bool := isInt d && !isBool d
def spIsWhole : Sp := fun vs H Q _ => ∃ st v d, vs = [v] ∧ TD st H v d ∧ Q (.bl (wholeB d)) H
theorem ok_is_whole {f : Addr} {fd : FuncData} {k : Nat} (F : Fun K "is_whole" "is_whole" sIsWhole f fd) (M : Mg mg) : FnOk P w K mg base CX0 (k + 1) f fd ["thing"] spIsWhole := by
  refine F.ok scIsWhole (fun vs H Q E h => ?_) (fun cdv A outer s H vs Q E hr h => ?_)
  · obtain ⟨st, v, d, rfl, _⟩ := h
    rfl
  · obtain ⟨st, v, d, rfl, td, q⟩ := h
    refine ⟨_, pss_one (ps_ret (pe_and (pe_callB call_isi (by rfl) M.isinstance (by decide +kernel) (pa_cons (pv 0) (pa_cons (pe_bltn (v := .ty "int") (by rfl) M.int (by decide +kernel) rfl) pa_nil)))
      (pe_one (pe_not (pe_callB call_isi (by rfl) M.isinstance (by decide +kernel) (pa_cons (pv 0) (pa_cons (pe_bltn (v := .ty "bool") (by rfl) M.bool (by decide +kernel) rfl) pa_nil))))))), ?_⟩
    refine ⟨v, rfl, v, .ty "int", _, _, _, rfl, .ty _, td.ty, kit_ty (kit_int d), _, rfl, ?_⟩
    unfold wholeB at q
    cases hi : isInt d with
    | true =>
      rw [hi] at q
      exact iteT ⟨v, rfl, v, .ty "bool", _, _, _, rfl, .ty _, td.ty, kit_ty (kit_bool d), _, rfl, q⟩
    | false =>
      rw [hi] at q
      exact iteF q
theorem whole_int {d : D} (h : wholeB d = true) : ∃ i, d = .int i := by
  cases d with
  | int i => exact ⟨i, rfl⟩
  | _ => exact absurd h Bool.false_ne_true
/-! ### is_number -/
def numB : D → Int → Bool
  | .int i, m => decide (0 ≤ i) && decide (i < m)
  | _, _ => false
theorem num_no {d : D} {m : Int} (h : wholeB d = false) : numB d m = false := by
  cases d with
  | int i => exact absurd h.symm Bool.false_ne_true
  | _ => rfl
def spIsNumber : Sp := fun vs H Q _ => ∃ st v d m, vs = [v, .int m] ∧ TD st H v d ∧ Q (.bl (numB d m)) H
theorem ok_is_number {f f1 : Addr} {fd fd1 : FuncData} {k : Nat} (F : Fun K "is_number" "is_number" sIsNumber f fd) (M : Mg mg) (G1 : FnOk P w K mg base CX0 k f1 fd1 ["thing"] spIsWhole) (g1 : mg "is_whole" = some (.ref f1)) (k1 : PySem.W.keepIn K (.ref f1) = true) (b1 : Binds K fd1 ["thing"] []) :
    FnOk P w K mg base CX0 (k + 1) f fd ["thing", "many"] spIsNumber := by
  refine F.ok scIsNumber (fun vs H Q E h => ?_) (fun cdv A outer s H vs Q E hr h => ?_)
  · obtain ⟨st, v, d, m, rfl, _⟩ := h
    rfl
  · obtain ⟨st, v, d, m, rfl, td, q⟩ := h
    refine ⟨_, pss_one (ps_ret (pe_and (pe_call G1 hr (by rfl) g1 k1 b1 .nil pass0 (pa_cons (pv 0) pa_nil))
      (pe_one (pe_chain op_le op_lt pe_int (pv 0) (pv 1))))), ?_⟩
    refine ⟨v, rfl, st, v, d, rfl, td, _, rfl, ?_⟩
    cases hw : wholeB d with
    | false =>
      rw [num_no hw] at q
      exact iteF q
    | true =>
      obtain ⟨i, rfl⟩ := whole_int hw
      cases td
      refine iteT ⟨_, rfl, 0, i, rfl, rfl, _, rfl, ?_⟩
      have q' : Q (.bl (decide (0 ≤ i) && decide (i < m))) H := q
      cases h0 : decide (0 ≤ i) with
      | false =>
        rw [h0] at q'
        exact iteF q'
      | true =>
        rw [h0] at q'
        exact iteT ⟨_, rfl, i, m, rfl, rfl, q'⟩
/-! ### is_box -/
def boxD : D → Bool
  | .int i => boxB i
  | _ => false
theorem num_box (d : D) : numB d (100000000 + 1) = boxD d := by
  cases d with
  | int i =>
    show (decide (0 ≤ i) && decide (i < 100000000 + 1)) = (decide (0 ≤ i) && decide (i ≤ 100000000))
    rw [show decide (i < 100000000 + 1) = decide (i ≤ 100000000) from decide_eq_decide.mpr (by omega)]
  | _ => rfl
def spIsBox : Sp := fun vs H Q _ => ∃ st v d, vs = [v] ∧ TD st H v d ∧ Q (.bl (boxD d)) H
theorem ok_is_box {f f1 : Addr} {fd fd1 : FuncData} {k : Nat} (F : Fun K "is_box" "is_box" sIsBox f fd) (M : Mg mg) (G1 : FnOk P w K mg base CX0 k f1 fd1 ["thing", "many"] spIsNumber) (g1 : mg "is_number" = some (.ref f1)) (k1 : PySem.W.keepIn K (.ref f1) = true) (b1 : Binds K fd1 ["thing", "many"] []) :
    FnOk P w K mg base CX0 (k + 1) f fd ["thing"] spIsBox := by
  refine F.ok scIsBox (fun vs H Q E h => ?_) (fun cdv A outer s H vs Q E hr h => ?_)
  · obtain ⟨st, v, d, rfl, _⟩ := h
    rfl
  · obtain ⟨st, v, d, rfl, td, q⟩ := h
    obtain ⟨tb, mb⟩ := M.box
    refine ⟨_, pss_one (ps_ret (pe_call G1 hr (by rfl) g1 k1 b1 .nil pass0 (pa_cons (pv 0) (pa_cons (pe_add (pe_glob (v := .int 100000000) (by rfl) mb ⟨_, rfl⟩) pe_int) pa_nil)))), ?_⟩
    refine ⟨v, rfl, 100000000, 1, rfl, rfl, st, v, d, 100000000 + 1, rfl, td, ?_⟩
    rw [num_box]
    exact q
/-! ### is_one_of -/
def oneB : D → List Str → Bool
  | .str z, ws => decide (z ∈ ws)
  | _, _ => false
theorem inV_str (z : Str) : ∀ ws : List Str, inV (.str z) (ws.map V.str) = decide (z ∈ ws)
  | [] => by simp [inV]
  | y :: ws => by
    have ih := inV_str z ws
    unfold inV at ih ⊢
    rw [List.map_cons, List.any_cons, ih]
    by_cases e : y = z
    · subst e
      simp [eqV]
    · have e' : ¬ z = y := fun q => e q.symm
      have : eqV (.str y) (.str z) = false := by simp [eqV, e]
      rw [this, Bool.false_or]
      exact decide_eq_decide.mpr ⟨fun h => List.mem_cons_of_mem _ h, fun h => (List.mem_cons.mp h).resolve_left e'⟩
theorem flat_strs : ∀ ws : List Str, (ws.map V.str).all flatV = true
  | [] => rfl
  | y :: ws => by
    rw [List.map_cons, List.all_cons, flat_strs ws]
    rfl
def spIsOneOf (K : PySem.W.Frag) : Sp := fun vs H Q _ => ∃ st v d a ws, vs = [v, .ref a] ∧ TD st H v d ∧ SqT K H a (ws.map V.str) ∧ Q (.bl (oneB d ws)) H
theorem ok_is_one_of {f : Addr} {fd : FuncData} {k : Nat} (F : Fun K "is_one_of" "is_one_of" sIsOneOf f fd) (M : Mg mg) : FnOk P w K mg base CX0 (k + 1) f fd ["thing", "words"] (spIsOneOf K) := by
  refine F.ok scIsOneOf (fun vs H Q E h => ?_) (fun cdv A outer s H vs Q E hr h => ?_)
  · obtain ⟨st, v, d, a, ws, rfl, _⟩ := h
    rfl
  · obtain ⟨st, v, d, a, ws, rfl, td, hS, q⟩ := h
    refine ⟨_, pss_one (ps_ret (pe_and (pe_callB call_isi (by rfl) M.isinstance (by decide +kernel) (pa_cons (pv 0) (pa_cons (pe_bltn (v := .ty "str") (by rfl) M.str (by decide +kernel) rfl) pa_nil)))
      (pe_one (pe_cmpR op_in_seq (pv 0) (pv 1) (by rfl))))), ?_⟩
    refine ⟨v, rfl, v, .ty "str", _, _, _, rfl, .ty _, td.ty, kit_ty (kit_str d), _, rfl, ?_⟩
    cases td with
    | str z => exact iteT ⟨_, rfl, _, rfl, a, ws.map V.str, rfl, .inr hS, rfl, flat_strs ws, by
        show Q (.bl (inV (.str z) (ws.map V.str))) H
        rw [inV_str]
        exact q⟩
    | _ => exact iteF q
/-! ### is_step -/
theorem isStep_pair (x y : D) : isStep (.tup [x, y]) = (oneB x [wR, wW] && boxD y) := by
  cases x with
  | str z =>
    cases y with
    | int i =>
      show ((if (wordB z && boxB i) = true then some (z, i) else none).isSome) = (decide (z ∈ [wR, wW]) && boxB i)
      have e : decide (z ∈ [wR, wW]) = wordB z := by
        unfold wordB
        simp
      rw [e]
      cases (wordB z && boxB i) <;> rfl
    | _ =>
      show false = (_ && false)
      rw [Bool.and_false]
  | _ => rfl
theorem isStep_len {ds : List D} (h : ds.length ≠ 2) : isStep (.tup ds) = false := by
  match ds, h with
  | [], _ => rfl
  | [x], _ => cases x <;> rfl
  | [x, y], h => exact absurd rfl h
  | x :: y :: z :: r, _ =>
    cases x with
    | str z => cases y <;> rfl
    | _ => rfl
theorem isStep_tup {d : D} (h : isTup d = false) : isStep d = false := by
  cases d with
  | tup ds => exact absurd h.symm Bool.false_ne_true
  | _ => rfl
def spD (f : D → Bool) : Sp := fun vs H Q _ => ∃ st v d, vs = [v] ∧ TD st H v d ∧ ∀ H', Same H H' → Q (.bl (f d)) H'
theorem ok_is_step {f f1 f2 : Addr} {fd fd1 fd2 : FuncData} {k : Nat} (F : Fun K "is_step" "is_step" sIsStep f fd) (M : Mg mg) (G1 : FnOk P w K mg base CX0 k f1 fd1 ["thing", "words"] (spIsOneOf K)) (g1 : mg "is_one_of" = some (.ref f1)) (k1 : PySem.W.keepIn K (.ref f1) = true) (b1 : Binds K fd1 ["thing", "words"] [])
    (G2 : FnOk P w K mg base CX0 k f2 fd2 ["thing"] spIsBox) (g2 : mg "is_box" = some (.ref f2)) (k2 : PySem.W.keepIn K (.ref f2) = true) (b2 : Binds K fd2 ["thing"] []) :
    FnOk P w K mg base CX0 (k + 1) f fd ["thing"] (spD isStep) := by
  refine F.ok scIsStep (fun vs H Q E h => ?_) (fun cdv A outer s H vs Q E hr h => ?_)
  · obtain ⟨st, v, d, rfl, _⟩ := h
    rfl
  · obtain ⟨st, v, d, rfl, td, q⟩ := h
    refine ⟨_, pss_cons (ps_if (PW.pt (pw_or (pt_not (pt_val (pe_callB call_isi (by rfl) M.isinstance (by decide +kernel) (pa_cons (pv 0) (pa_cons (pe_bltn (v := .ty "tuple") (by rfl) M.tuple (by decide +kernel) rfl) pa_nil)))))
        (pw_or1 (pt_cmpR op_ne (pe_callB call_len_seq (by rfl) M.len PySem.boot_len (pa_cons (pv 0) pa_nil)) pe_int (nomark _))))) (pss_one (ps_ret pe_bl)) pss_nil)
      (pss_one (ps_ret (pe_and (pe_call G1 hr (by rfl) g1 k1 b1 .nil pass0 (pa_cons (pe_ix ix_tup (pv 0) pe_int (fun _ _ => rfl)) (pa_cons (pe_tup (pa_cons pe_str (pa_cons pe_str pa_nil))) pa_nil)))
        (pe_one (pe_call G2 hr (by rfl) g2 k2 b2 .nil pass0 (pa_cons (pe_ix ix_tup (pv 0) pe_int (fun _ _ => rfl)) pa_nil)))))), ?_⟩
    refine ⟨v, rfl, v, .ty "tuple", _, _, _, rfl, .ty _, td.ty, kit_ty (kit_tup d), _, rfl, ?_⟩
    cases ht : isTup d with
    | false =>
      rw [isStep_tup ht] at q
      exact iteT (iteT (q H (Same.refl H)))
    | true =>
      cases td with
      | @tup a xs ds n h t =>
        refine iteF ⟨.ref a, rfl, a, xs, rfl, .inr (SqT.of h), rfl, _, rfl, ?_⟩
        have hl := t.length
        by_cases h2 : xs.length = 2
        · rw [h2]
          refine iteF ?_
          match xs, ds, t, h2 with
          | [x, y], [dx, dy], .cons tx (.cons ty .nil), _ =>
            refine ⟨.ref a, rfl, a, [x, y], 0, x, rfl, rfl, SqT.of h, rfl, by show 2 ≤ sizeLine; decide, fun p np => ?_⟩
            have s1 : Same H (upd H p (.tup [.str wR, .str wW])) := same_new np
            refine ⟨st, x, dx, p, [wR, wW], rfl, tx.mono (.of s1), SqT.of upd_same, _, rfl, ?_⟩
            rw [isStep_pair] at q
            cases ho : oneB dx [wR, wW] with
            | false =>
              rw [ho] at q
              exact iteF (q _ s1)
            | true =>
              rw [ho] at q
              exact iteT ⟨.ref a, rfl, a, [x, y], 1, y, rfl, rfl, SqT.of (s1 _ _ h), rfl, st, y, dy, rfl, ty.mono (.of s1), q _ s1⟩
        · have e : (!decide (V.int (xs.length : Int) = V.int 2)) = true := by
            rw [Bool.not_eq_true', decide_eq_false_iff_not]
            intro z
            have z' : (xs.length : Int) = 2 := V.int.inj z
            exact h2 (by omega)
          rw [e]
          rw [isStep_len (by omega)] at q
          exact iteT (q H (Same.refl H))
      | _ => exact absurd ht Bool.false_ne_true
/-! ### may_follow -/
def spMay : Sp := fun vs H Q _ => ∃ st v p a xs l, vs = [v, .ref a] ∧ TD st H v (stepD p) ∧ H a = some (.tup xs) ∧ TDs st H xs (l.map stepD) ∧ wordB p.1 = true ∧ (∀ q ∈ l, wordB q.1 = true) ∧ ∀ H', Same H H' → Q (.bl (mayP p l)) H'
theorem ok_may_follow {f : Addr} {fd : FuncData} {k : Nat} (F : Fun K "may_follow" "may_follow" sMayFollow f fd) (M : Mg mg) : FnOk P w K mg base CX0 (k + 1) f fd ["step", "ahead"] spMay := by
  refine F.ok scMayFollow (fun vs H Q E h => ?_) (fun cdv A outer s H vs Q E hr h => ?_)
  · obtain ⟨st, v, p, a, xs, l, rfl, _⟩ := h
    rfl
  · obtain ⟨st, v, p, a, xs, l, rfl, td, h, t, wp, wl, q⟩ := h
    refine ⟨_, pss_one (ps_ret (pe_and (pe_cmpR (op_notInDT (hu65 hr)) (pv 0) (pv 1) (by rfl))
      (pe_one (pe_cmpR (op_notInDT (hu65 hr)) (pe_tup (pa_cons pe_str (pa_cons (pe_ix ix_tup (pv 0) pe_int (fun _ _ => rfl)) pa_nil))) (pv 1) (by rfl))))), ?_⟩
    refine ⟨v, rfl, .ref a, rfl, stepP p, l.map stepP, td.stepDp, .tup (SqT.of h) t.stepsDp, stepP_shaped wp, stepPs_shapedT wl, _, rfl, ?_⟩
    rw [any_step]
    unfold mayP at q
    cases h1 : decide (p ∈ l) with
    | true =>
      rw [h1] at q
      exact iteF (q H (Same.refl H))
    | false =>
      rw [h1] at q
      obtain ⟨b, rfl, nb, hb⟩ := td.stepV
      refine iteT ⟨.ref b, rfl, b, [.str p.1, .int p.2], 1, .int p.2, rfl, rfl, SqT.of hb, rfl, by show 2 ≤ sizeLine; decide, fun c nc => ?_⟩
      have s1 : Same H (upd H c (.tup [.str wW, .int p.2])) := same_new nc
      refine ⟨.ref a, rfl, stepP (wW, p.2), l.map stepP, .tup (SqT.of upd_same) (.cons (.str _) (.cons (.int _) .nil)), .tup (SqT.of (s1 _ _ h)) (t.mono (.of s1)).stepsDp, stepP_shaped (show wordB wW = true by decide +kernel), stepPs_shapedT wl, ?_⟩
      rw [any_step]
      exact q _ s1
/-! ### is_dealing -/
theorem map_range {α : Type} (xs : List α) (g : Nat → α) (h : ∀ i x, xs[i]? = some x → g i = x) : (List.range xs.length).map g = xs := by
  apply List.ext_getElem?
  intro i
  rw [List.getElem?_map]
  by_cases hi : i < xs.length
  · rw [List.getElem?_range hi, List.getElem?_eq_getElem hi]
    exact congrArg some (h i _ (List.getElem?_eq_getElem hi))
  · rw [List.getElem?_eq_none (by rw [List.length_range]; omega), List.getElem?_eq_none (by omega)]
    rfl
theorem isDealing_tup {d : D} (h : isTup d = false) : isDealing d = false := by
  cases d with
  | tup ds => exact absurd h.symm Bool.false_ne_true
  | _ => rfl
theorem cut_to (xs : List V) (i : Nat) : cutV xs none (some (i : Int)) = xs.take i := by
  unfold cutV
  rw [HT.sIx_none, HT.sIx_nat, List.drop_zero, Nat.sub_zero]
  by_cases h : i ≤ xs.length
  · rw [Nat.min_eq_left h]
  · rw [Nat.min_eq_right (by omega), List.take_of_length_le (Nat.le_refl _), List.take_of_length_le (by omega)]
theorem all_id_map {α : Type} (g : α → Bool) (xs : List α) : (xs.map g).all id = xs.all g := by
  rw [List.all_map]
  rfl
theorem ok_is_dealing {f f1 f2 : Addr} {fd fd1 fd2 : FuncData} {k : Nat} (F : Fun K "is_dealing" "is_dealing" sIsDealing f fd) (M : Mg mg) (G1 : FnOk P w K mg base CX0 k f1 fd1 ["thing"] (spD isStep)) (g1 : mg "is_step" = some (.ref f1)) (k1 : PySem.W.keepIn K (.ref f1) = true) (b1 : Binds K fd1 ["thing"] [])
    (G2 : FnOk P w K mg base CX0 k f2 fd2 ["step", "ahead"] spMay) (g2 : mg "may_follow" = some (.ref f2)) (k2 : PySem.W.keepIn K (.ref f2) = true) (b2 : Binds K fd2 ["step", "ahead"] []) :
    FnOk P w K mg base CX0 (k + 1) f fd ["thing"] (spD isDealing) := by
  refine F.ok scIsDealing (fun vs H Q E h => ?_) (fun cdv A outer s H vs Q E hr h => ?_)
  · obtain ⟨st, v, d, rfl, _⟩ := h
    rfl
  · obtain ⟨st, v, d, rfl, td, q⟩ := h
    obtain ⟨ts, ms⟩ := M.steps
    refine ⟨_, pss_cons (ps_if (PW.pt (pw_or (pt_not (pt_val (pe_callB call_isi (by rfl) M.isinstance (by decide +kernel) (pa_cons (pv 0) (pa_cons (pe_bltn (v := .ty "tuple") (by rfl) M.tuple (by decide +kernel) rfl) pa_nil)))))
        (pw_or1 (pt_not (pt_chain op_le op_le pe_int (pe_callB call_len_seq (by rfl) M.len PySem.boot_len (pa_cons (pv 0) pa_nil)) (pe_glob (v := .int 8) (by rfl) ms ⟨_, rfl⟩)))))) (pss_one (ps_ret pe_bl)) pss_nil)
      (pss_cons (ps_if (pt_not (pt_val (pe_callB (cr_all rfl) (by rfl) M.all (by decide +kernel) (pa_cons
          (pe_lc (own := [("step", 1)]) (g := gName 1) (by rfl) scIsDealing.nd (pi_tup (pv 0)) (blkOk_by (own := [("step", 1)]) (N := ["thing", "step", "place"]) (sc := defScope sIsDealing) (by decide +kernel))
            (fun _ _ _ _ _ => pg_name (i := 1) scIsDealing.nd rfl (Or.inl rfl)) (fun _ _ _ _ _ => pts_nil) (fun _ _ _ _ _ => pe_call G1 hr (by rfl) g1 k1 b1 .nil pass0 (pa_cons (pv 1) pa_nil))) pa_nil)))) (pss_one (ps_ret pe_bl)) pss_nil)
      (pss_one (ps_ret (pe_callB (cr_all rfl) (by rfl) M.all (by decide +kernel) (pa_cons
          (pe_lc (own := [("place", 2), ("step", 1)]) (g := gTup K 2 (gCons (gName 2) (gCons (gName 1) gNil))) (by rfl) scIsDealing.nd (pi_enumT (by rfl) M.enumerate (pa_cons (pv 0) pa_nil)) (blkOk_by (own := [("place", 2), ("step", 1)]) (N := ["thing", "step", "place"]) (sc := defScope sIsDealing) (by decide +kernel))
            (fun _ _ _ _ _ => pg_tup rfl (pgs_cons (pg_name (i := 2) scIsDealing.nd rfl (Or.inl rfl)) (pgs_cons (pg_name (i := 1) scIsDealing.nd rfl (Or.inl rfl)) pgs_nil))) (fun _ _ _ _ _ => pts_nil)
            (fun _ _ _ _ _ => pe_call G2 hr (by rfl) g2 k2 b2 .nil pass0 (pa_cons (pv 1) (pa_cons (pe_slice (show SlR _ (rSlA K) from sl_tupA) (pv 0) po_none (po_some (pv 2))) pa_nil)))) pa_nil))))), ?_⟩
    refine ⟨v, rfl, v, .ty "tuple", _, _, _, rfl, .ty _, td.ty, kit_ty (kit_tup d), _, rfl, ?_⟩
    cases ht : isTup d with
    | false =>
      rw [isDealing_tup ht] at q
      exact iteT (iteT (q H (Same.refl H)))
    | true =>
      cases td with
      | @tup a xs ds n h t =>
        have hl := t.length
        refine iteF ⟨.ref a, rfl, a, xs, rfl, .inr (SqT.of h), 1, _, rfl, rfl, _, rfl, ?_⟩
        by_cases h1 : 1 ≤ xs.length
        · rw [decide_eq_true (show (1 : Int) ≤ (xs.length : Int) by omega)]
          refine iteT ⟨_, 8, rfl, rfl, _, rfl, ?_⟩
          by_cases h8 : xs.length ≤ 8
          · rw [decide_eq_true (show (xs.length : Int) ≤ 8 by omega)]
            refine iteF ⟨.ref a, rfl, a, rfl, ⟨_, SqT.of h⟩, fun D1 hD1 => lc_kept walk_tup (fun _ => true) (fun i => .bl (isStep (ds.getD i .non))) hD1 (by omega) (fun H' e => SqT.of (e _ _ h)) (fun i x H2 H3 N R hi e2 y hN hR => ?_) (fun H2 e2 hL => ?_)⟩
            · obtain ⟨rfl, hx⟩ := y
              obtain ⟨di, hdi, tdi⟩ := t.get hx
              refine ⟨rfl, yesI ⟨x, rfl, st, x, di, rfl, tdi.mono (.of e2), fun H4 e4 => ?_⟩⟩
              have e5 : ds.getD i .non = di := by rw [List.getD_eq_getElem?_getD, hdi]; rfl
              have r := hR rfl H4 e4
              simp only [e5] at r
              exact r
            · have e1 : kept xs.length (fun _ => true) (fun i => V.bl (isStep (ds.getD i .non))) = (ds.map isStep).map V.bl := by
                rw [kept_all]
                have e0 : xs.length = ((ds.map isStep).map V.bl).length := by rw [List.length_map, List.length_map]; exact hl
                rw [e0]
                refine map_range _ _ fun i x hx => ?_
                rw [List.getElem?_map, List.getElem?_map] at hx
                cases hd : ds[i]? with
                | none => rw [hd] at hx; cases hx
                | some di =>
                  rw [hd] at hx
                  have e5 : ds.getD i .non = di := by rw [List.getD_eq_getElem?_getD, hd]; rfl
                  rw [e5]
                  exact Option.some.inj hx
              rw [e1] at hL
              refine ⟨D1, ds.map isStep, rfl, SqL.of hL, _, rfl, ?_⟩
              rw [all_id_map, ← prs_isSome]
              have hdl : decide (1 ≤ ds.length) = true := decide_eq_true (by omega)
              have hdl8 : decide (ds.length ≤ 8) = true := decide_eq_true (by omega)
              have q' : ∀ H', Same H H' → Q (.bl (match prs ds with | some l => follow mayP l | none => false)) H' := fun H' e => by
                have := q H' e
                rw [isDealing_eq, hdl, hdl8] at this
                exact this
              cases hp : prs ds with
              | none =>
                rw [hp] at q'
                exact iteT (q' H2 e2)
              | some l =>
                rw [hp] at q'
                obtain ⟨el, wl⟩ := prs_some hp
                have hll : xs.length = l.length := by rw [hl, el, List.length_map]
                have t' : TDs st H xs (l.map stepD) := by rw [← el]; exact t
                refine iteF ⟨.ref a, rfl, a, xs, rfl, SqT.of (e2 _ _ h), fun D2 hD2 => lc_kept walk_enumT (fun _ => true) (fun i => .bl (match l[i]? with | some p => mayP p (l.take i) | none => true)) hD2 (by omega) (fun H' e => SqT.of (e _ _ (e2 _ _ h))) (fun i x H3 H4 N R hi e3 y hN hR => ?_) (fun H3 e3 hL2 => ?_)⟩
                · obtain ⟨T, x1, x2, rfl, nT, rfl, ex1, hx2⟩ := y
                  have ex1' : x1 = .int (i : Nat) := (Option.some.inj ex1).symm
                  subst ex1'
                  obtain ⟨di, hdi, tdi⟩ := t'.get hx2
                  have hil : i < l.length := by omega
                  have hgi : l[i]? = some l[i] := List.getElem?_eq_getElem hil
                  have edi : di = stepD l[i] := by
                    rw [List.getElem?_map, hgi] at hdi
                    exact (Option.some.inj hdi).symm
                  subst edi
                  have eT : Same H (upd H3 T (.tup [.int (i : Nat), x2])) := Same.new (Same.trans e2 e3) nT
                  refine ⟨T, [.int (i : Nat), x2], rfl, SqT.of upd_same, rfl, .int (i : Nat), [x2], rfl, x2, [], rfl, rfl, rfl, yesI ⟨x2, rfl, .ref a, rfl, .int (i : Nat), rfl, i, rfl, a, xs, rfl, SqT.of (eT _ _ h), fun hw => ?_, fun hw p np => ?_⟩⟩
                  · rw [HT.sIx_nat] at hw
                    exact absurd hw.2 (by omega)
                  · have eP : Same H (upd (upd H3 T (.tup [.int (i : Nat), x2])) p (.tup (cutV xs none (some (i : Nat))))) := Same.new eT np
                    refine ⟨st, x2, l[i], p, xs.take i, l.take i, rfl, tdi.mono (.of eP), by rw [upd_same, cut_to], ?_, (wl _ (List.getElem_mem hil)).1, fun q hq => (wl q (List.mem_of_mem_take hq)).1, fun H5 e5 => ?_⟩
                    · rw [List.map_take]
                      exact (t'.take i).mono (.of eP)
                    · have r := hR rfl H5 (Same.trans (same_new nT) (Same.trans (same_new np) e5))
                      simp only [hgi] at r
                      exact r
                · have e1 : kept xs.length (fun _ => true) (fun i => V.bl (match l[i]? with | some p => mayP p (l.take i) | none => true)) = ((List.range l.length).map fun i => match l[i]? with | some p => mayP p (l.take i) | none => true).map V.bl := by
                    rw [kept_all, List.map_map, hll]
                    rfl
                  rw [e1] at hL2
                  refine ⟨D2, _, rfl, SqL.of hL2, ?_⟩
                  rw [all_id_map]
                  exact q' H3 (Same.trans e2 e3)
          · rw [decide_eq_false (show ¬ (xs.length : Int) ≤ 8 by omega)]
            have e : isDealing (.tup ds) = false := by
              rw [isDealing_eq, decide_eq_false (show ¬ ds.length ≤ 8 by omega), Bool.and_false, Bool.false_and]
            rw [e] at q
            exact iteT (q H (Same.refl H))
        · rw [decide_eq_false (show ¬ (1 : Int) ≤ (xs.length : Int) by omega)]
          have e : isDealing (.tup ds) = false := by
            rw [isDealing_eq, decide_eq_false (show ¬ 1 ≤ ds.length by omega), Bool.false_and, Bool.false_and]
          rw [e] at q
          refine iteF ⟨_, rfl, iteT (q H (Same.refl H))⟩
      | _ => exact absurd ht Bool.false_ne_true
end
end As

namespace As
open PySem PySem.Spec PyProof.Rows L2
abbrev sCellAt : Stmt := topS 24
abbrev sDigit : Stmt := topS 25
abbrev sBox : Stmt := topS 26
abbrev sDealing : Stmt := topS 27
theorem scCellAt : FnScope ["_law_script", "_law_k"] ["_law_script", "_law_k"] (defScope sCellAt) := ⟨rfl, rfl, rfl, by decide +kernel, rfl, by decide +kernel, by decide +kernel⟩
theorem scDigit : FnScope ["_law_state", "_law_base", "_law_cell", "_law_found", "_law_number_here"] ["_law_state", "_law_base"] (defScope sDigit) := ⟨rfl, rfl, rfl, by decide +kernel, rfl, by decide +kernel, by decide +kernel⟩
theorem scBox : FnScope ["_law_state", "_law_few"] ["_law_state", "_law_few"] (defScope sBox) := ⟨rfl, rfl, rfl, by decide +kernel, rfl, by decide +kernel, by decide +kernel⟩
theorem scDealing : FnScope ["_law_state", "_law_few", "_law_most", "_law_steps", "_law_k", "_law_word_here", "_law_step"] ["_law_state", "_law_few", "_law_most"] (defScope sDealing) := ⟨rfl, rfl, rfl, by decide +kernel, rfl, by decide +kernel, by decide +kernel⟩
section
variable {P : Program} {w : World} {K : PySem.W.Frag} {mg : Str → Option Value} {base : Heap}
/-! ### cell_at -/
def spCellAt (K : PySem.W.Frag) : Sp := fun vs H Q _ => ∃ (a : Addr) (k : Nat) (ns : List Int), vs = [.ref a, .int (k : Int)] ∧ SqL K H a (ns.map V.int) ∧ ∀ i, Q (.int i) H
theorem ok_cell_at {f : Addr} {fd : FuncData} {k : Nat} (F : Fun K "_law_cell_at" "_law_cell_at" sCellAt f fd) (M : Mg mg) : FnOk P w K mg base CX0 (k + 1) f fd ["_law_script", "_law_k"] (spCellAt K) := by
  refine F.ok scCellAt (fun vs H Q E h => ?_) (fun cdv A outer s H vs Q E hr h => ?_)
  · obtain ⟨a, k, ns, rfl, _⟩ := h
    rfl
  · obtain ⟨a, k, ns, rfl, hS, q⟩ := h
    refine ⟨_, pss_cons (ps_if (pt_cmpR op_lt (pv 1) (pe_callB call_len_seq (by rfl) M.len PySem.boot_len (pa_cons (pv 0) pa_nil)) (nomark _)) (pss_one (ps_ret (pe_ix ix_list (pv 0) (pv 1) (fun _ _ => rfl)))) pss_nil)
      (pss_one (ps_ret pe_int)), ?_⟩
    refine ⟨_, rfl, .ref a, rfl, a, _, rfl, .inl hS, _, _, rfl, rfl, _, rfl, ite2 (fun e => ?_) (fun e => ?_)⟩
    · have e' := of_decide_eq_true e
      have hk : k < ns.length := by
        rw [List.length_map] at e'
        omega
      refine ⟨.ref a, rfl, _, rfl, a, _, k, .int ns[k], rfl, rfl, hS, atI_nat ?_, q _⟩
      rw [List.getElem?_map, List.getElem?_eq_getElem hk]
      rfl
    · exact q 0
/-! ### the well -/
def Well (st : Addr) (H : Hp) : Prop := (∃ c, H st = some (.lst [.int c])) ∨ ∃ a b c : Int, H st = some (.lst [.int a, .int b, .int c])
theorem Well.same {st : Addr} {H H' : Hp} (e : Same H H') (h : Well st H) : Well st H' := by
  rcases h with ⟨c, h⟩ | ⟨a, b, c, h⟩
  · exact .inl ⟨c, e _ _ h⟩
  · exact .inr ⟨a, b, c, e _ _ h⟩
theorem Well.ne {st p : Addr} {H : Hp} (h : Well st H) (np : H p = none) : p ≠ st := by
  rcases h with ⟨c, h⟩ | ⟨a, b, c, h⟩
  · exact (ne_of_none h np).symm
  · exact (ne_of_none h np).symm
def spDigit : Sp := fun vs H Q _ => ∃ (st : Addr) (b : Int), vs = [.ref st, .int b] ∧ Well st H ∧ 0 < b ∧ b < 1000000000 ∧ ∀ r H', 0 ≤ r → r < b → Well st H' → ExS st H H' → Q (.int r) H'
theorem ok_digit {f : Addr} {fd : FuncData} {k : Nat} (F : Fun K "_law_digit" "_law_digit" sDigit f fd) (M : Mg mg) : FnOk P w K mg base CX0 (k + 1) f fd ["_law_state", "_law_base"] spDigit := by
  refine F.ok scDigit (fun vs H Q E h => ?_) (fun cdv A outer s H vs Q E hr h => ?_)
  · obtain ⟨st, b, rfl, _⟩ := h
    rfl
  · obtain ⟨st, bs, rfl, hW, hb0, hb1, q⟩ := h
    refine ⟨_, Evl.pss_cut (ps_if (pt_cmpR op_eq (pe_callB call_len_seq (by rfl) M.len PySem.boot_len (pa_cons (pv 0) pa_nil)) pe_int (nomark _))
        (pss_cons (ps_set (i := 2) scDigit.nd rfl (.inl rfl) (pe_ix ix_list (pv 0) pe_int (fun _ _ => rfl)))
        (pss_cons (ps_asg (pe_ix ix_list (pe_lst (pa_cons pe_int (pa_cons (pv 2) pa_nil))) (pe_callTy call_int1 (by rfl) M.int (by decide +kernel) (pa_cons (pe_cmpR op_ge (pv 2) (pe_op op_pow pe_int pe_int) (nomark _)) pa_nil)) (fun _ _ => rfl)) (pg_sub (pv 0) pe_int set_list))
        (pss_one (ps_expr (pe_bm PySem.F.plainAttrs_list PySem.F.slot_list_extend PySem.F.type_list_extend mt_extend (pv 0) (pa_cons (pe_lst (pa_cons (pe_op op_mod (pv 2) pe_int) (pa_cons pe_int pa_nil))) pa_nil)))))) pss_nil)
      (pss_cons (ps_if (pt_cmpR op_gt (pe_ix ix_list (pv 0) pe_int (fun _ _ => rfl)) pe_int (nomark _))
        (pss_cons (ps_set (i := 3) scDigit.nd rfl (.inl rfl) (pe_op op_mod (pe_ix ix_list (pv 0) pe_int (fun _ _ => rfl)) (pv 1)))
        (pss_cons (ps_asg (pe_op op_fdiv (pe_ix ix_list (pv 0) pe_int (fun _ _ => rfl)) (pv 1)) (pg_sub (pv 0) pe_int set_list))
        (pss_one (ps_ret (pv 3))))) pss_nil)
      (pss_cons (ps_asg (pe_add (pe_ix ix_list (pv 0) pe_int (fun _ _ => rfl)) pe_int) (pg_sub (pv 0) pe_int set_list))
      (pss_cons (ps_set (i := 4) scDigit.nd rfl (.inl rfl) (pe_op op_mod (pe_op op_mul (pe_add (pe_add (pe_ix ix_list (pv 0) pe_int (fun _ _ => rfl)) (pe_op op_mul pe_int (pe_ix ix_list (pv 0) pe_int (fun _ _ => rfl)))) pe_int) pe_int) pe_int))
      (pss_cons (ps_set (i := 4) scDigit.nd rfl (.inl rfl) (pe_op op_mod (pe_op op_mul (pv 4) (pe_add (pe_op op_fdiv (pv 4) pe_int) pe_int)) pe_int))
      (pss_one (ps_ret (pe_op op_mod (pe_op op_mod (pe_op op_mul (pv 4) (pe_add (pe_op op_fdiv (pv 4) pe_int) pe_int)) pe_int) (pv 1)))))))), ?_⟩
    refine ⟨fun σ' H' => ∃ y2 a b c, σ' = [some (.ref st), some (.int bs), y2, none, none] ∧ H' st = some (.lst [.int a, .int b, .int c]) ∧ ExS st H H', ?_, fun σ' H1 hM => ?_⟩
    · rcases hW with ⟨c, h⟩ | ⟨a, b, c, h⟩
      · refine ⟨.ref st, rfl, st, _, rfl, .inl (SqL.of h), rfl, _, rfl, ite2 (fun e => ?_) (fun e => absurd (decide_eq_true rfl) e)⟩
        refine ⟨.ref st, rfl, st, _, 0, .int c, rfl, rfl, SqL.of h, rfl, ?_⟩
        refine ⟨.int c, rfl, by show 2 ≤ sizeLine; decide, fun p np => ?_⟩
        have hst : (upd H p (.lst [.int 0, .int c])) st = some (.lst [.int c]) := by
          rw [upd_ne (ne_of_none h np)]
          exact h
        refine ⟨.int c, rfl, 10, 18, rfl, rfl, ⟨by decide, by decide, by decide⟩, c, _, rfl, rfl, .inr ⟨_, rfl, p, [.int 0, .int c], _, (if decide ((10 : Int) ^ (18 : Int).toNat ≤ c) then .int c else .int 0), rfl, rfl, SqL.of upd_same, ?_, .ref st, rfl, st, [.int c], 0, 0, rfl, rfl, hst, rfl, ?_⟩⟩
        · cases decide ((10 : Int) ^ (18 : Int).toNat ≤ c) <;> rfl
        · obtain ⟨z, hz⟩ : ∃ z : Int, (if decide ((10 : Int) ^ (18 : Int).toNat ≤ c) then V.int c else V.int 0) = .int z := by
            cases decide ((10 : Int) ^ (18 : Int).toNat ≤ c)
            · exact ⟨0, rfl⟩
            · exact ⟨c, rfl⟩
          rw [hz]
          refine ⟨.ref st, rfl, .inl ⟨rfl, _, SqL.of upd_same⟩, .int c, rfl, c, 2147483647, rfl, rfl, (show (0 : Int) < 2147483647 by decide), by show 2 ≤ sizeLine; decide, fun p2 np2 => ?_⟩
          have n2 : st ≠ p2 := fun e => by
            rw [e, upd_same] at np2
            cases np2
          refine ⟨st, p2, [.int z], _, rfl, rfl, ?_, upd_same, by show 3 ≤ sizeLine; decide, ?_⟩
          · rw [upd_ne n2, upd_same]
            rfl
          · refine ⟨some (.int c), z, c % 2147483647, 0, rfl, upd_same, ?_⟩
            refine ExS.trans (ExS.new np) (ExS.trans ExS.at_ (ExS.trans (ExS.new np2) ExS.at_))
      · refine ⟨.ref st, rfl, st, _, rfl, .inl (SqL.of h), rfl, _, rfl, ite2 (fun e => ?_) (fun e => ?_)⟩
        · have e' := V.int.inj (of_decide_eq_true e)
          exact absurd e' (show ¬ (((3 : Nat) : Int) = 1) by decide)
        · exact ⟨none, a, b, c, rfl, h, ExS.refl _ _⟩
    · obtain ⟨y2, a, b, c, rfl, h, eS⟩ := hM
      refine ⟨.ref st, rfl, st, _, 0, .int a, rfl, rfl, SqL.of h, rfl, a, 0, rfl, rfl, _, rfl, ite2 (fun e => ?_) (fun e => ?_)⟩
      · have ha : 0 < a := of_decide_eq_true e
        refine ⟨.ref st, rfl, st, _, 0, .int a, rfl, rfl, SqL.of h, rfl, .int bs, rfl, a, bs, rfl, rfl, hb0, ?_⟩
        refine ⟨.ref st, rfl, st, _, 0, .int a, rfl, rfl, SqL.of h, rfl, .int bs, rfl, a, bs, rfl, rfl, ⟨hb0, by omega⟩, .ref st, rfl, st, _, 0, 0, rfl, rfl, h, rfl, ?_⟩
        refine ⟨.int (a % bs), rfl, q _ _ (Int.emod_nonneg _ (by omega)) (Int.emod_lt_of_pos _ hb0) (.inr ⟨a / bs, b, c, upd_same⟩) (eS.trans ExS.at_)⟩
      · refine ⟨.ref st, rfl, st, _, 2, .int c, rfl, rfl, SqL.of h, rfl, c, 1, rfl, rfl, .ref st, rfl, st, _, 2, 2, rfl, rfl, h, rfl, ?_⟩
        have h2 : (upd H1 st (.lst ([.int a, .int b, .int c].set 2 (.int (c + 1))))) st = some (.lst [.int a, .int b, .int (c + 1)]) := upd_same
        refine ⟨.ref st, rfl, st, _, 1, .int b, rfl, rfl, SqL.of h2, rfl, .ref st, rfl, st, _, 2, .int (c + 1), rfl, rfl, SqL.of h2, rfl, 7919, c + 1, rfl, rfl, .inl ⟨by decide, by decide⟩, b, 7919 * (c + 1), rfl, rfl, _, 1, rfl, rfl, _, 48271, rfl, rfl, .inr ⟨by decide, by decide⟩, _, 2147483647, rfl, rfl, (show (0 : Int) < 2147483647 by decide), ?_⟩
        obtain ⟨n, hn⟩ : ∃ n : Int, (b + 7919 * (c + 1) + 1) * 48271 % 2147483647 = n := ⟨_, rfl⟩
        have n0 : 0 ≤ n := by rw [← hn]; exact Int.emod_nonneg _ (by decide)
        have n1 : n < 2147483647 := by rw [← hn]; exact Int.emod_lt_of_pos _ (by decide)
        refine ⟨.int n, by rw [← hn]; rfl, .int n, by rw [← hn]; rfl, n, 1009, rfl, rfl, ⟨by decide, by decide⟩, _, 69621, rfl, rfl, n, _, rfl, rfl, .inl ⟨by omega, by omega⟩, _, 2147483647, rfl, rfl, (show (0 : Int) < 2147483647 by decide), ?_⟩
        obtain ⟨m, hm⟩ : ∃ m : Int, n * (n / 1009 + 69621) % 2147483647 = m := ⟨_, rfl⟩
        have m0 : 0 ≤ m := by rw [← hm]; exact Int.emod_nonneg _ (by decide)
        have m1 : m < 2147483647 := by rw [← hm]; exact Int.emod_lt_of_pos _ (by decide)
        refine ⟨.int m, by rw [← hm]; rfl, .int m, by rw [← hm]; rfl, m, 2003, rfl, rfl, ⟨by decide, by decide⟩, _, 40692, rfl, rfl, m, _, rfl, rfl, .inl ⟨by omega, by omega⟩, _, 2147483399, rfl, rfl, (show (0 : Int) < 2147483399 by decide), .int bs, rfl, _, bs, rfl, rfl, hb0, ?_⟩
        exact q _ _ (Int.emod_nonneg _ (by omega)) (Int.emod_lt_of_pos _ hb0) (.inr ⟨a, b, c + 1, upd_same⟩) (eS.trans ExS.at_)
/-! ### box -/
def spBox : Sp := fun vs H Q _ => ∃ (st : Addr) (b : Int), vs = [.ref st, .int b] ∧ Well st H ∧ 0 < b ∧ b ≤ 100000001 ∧ ∀ r H', boxB r = true → Well st H' → ExS st H H' → Q (.int r) H'
theorem ok_box {f f1 : Addr} {fd fd1 : FuncData} {k : Nat} (F : Fun K "_law_box" "_law_box" sBox f fd) (M : Mg mg) (G1 : FnOk P w K mg base CX0 k f1 fd1 ["_law_state", "_law_base"] spDigit) (g1 : mg "_law_digit" = some (.ref f1)) (k1 : PySem.W.keepIn K (.ref f1) = true) (b1 : Binds K fd1 ["_law_state", "_law_base"] []) :
    FnOk P w K mg base CX0 (k + 1) f fd ["_law_state", "_law_few"] spBox := by
  refine F.ok scBox (fun vs H Q E h => ?_) (fun cdv A outer s H vs Q E hr h => ?_)
  · obtain ⟨st, b, rfl, _⟩ := h
    rfl
  · obtain ⟨st, b, rfl, hW, hb0, hb1, q⟩ := h
    refine ⟨_, pss_cons (ps_if (pt_cmpR op_eq (pe_call G1 hr (by rfl) g1 k1 b1 .nil pass0 (pa_cons (pv 0) (pa_cons pe_int pa_nil))) pe_int (nomark _))
        (pss_one (ps_ret (pe_call G1 hr (by rfl) g1 k1 b1 .nil pass0 (pa_cons (pv 0) (pa_cons (pe_add (pe_op op_pow pe_int pe_int) pe_int) pa_nil))))) pss_nil)
      (pss_one (ps_ret (pe_call G1 hr (by rfl) g1 k1 b1 .nil pass0 (pa_cons (pv 0) (pa_cons (pv 1) pa_nil))))), ?_⟩
    refine ⟨.ref st, rfl, st, 12, rfl, hW, by decide, by decide, fun r H1 h0 h1 W1 e1 => ⟨rfl, _, rfl, ite2 (fun e => ?_) (fun e => ?_)⟩⟩
    · refine ⟨.ref st, rfl, 10, 8, rfl, rfl, ⟨by decide, by decide, by decide⟩, _, 1, rfl, rfl, st, 100000001, rfl, W1, by decide, by decide, fun r2 H2 h2 h3 W2 e2 => q r2 H2 ?_ W2 (e1.trans e2)⟩
      unfold boxB
      rw [decide_eq_true h2, decide_eq_true (show r2 ≤ 100000000 by omega)]
      rfl
    · refine ⟨.ref st, rfl, .int b, rfl, st, b, rfl, W1, hb0, by omega, fun r2 H2 h2 h3 W2 e2 => q r2 H2 ?_ W2 (e1.trans e2)⟩
      unfold boxB
      rw [decide_eq_true h2, decide_eq_true (show r2 ≤ 100000000 by omega)]
      rfl
/-! ### dealing -/
def StepsOk (l : List Pr) : Prop := ∀ p ∈ l, wordB p.1 = true ∧ boxB p.2 = true
def spDealing : Sp := fun vs H Q _ => ∃ (st : Addr) (b m : Int), vs = [.ref st, .int b, .int m] ∧ Well st H ∧ 0 < b ∧ b ≤ 100000001 ∧ 0 < m ∧ m ≤ 8 ∧
  ∀ v l H', TD st H' v (.tup (l.map stepD)) → 1 ≤ l.length → l.length ≤ 8 → StepsOk l → follow mayP l = true → Well st H' → ExS st H H' → Q v H'
theorem word_at {r : Int} (h0 : 0 ≤ r) (h1 : r < 2) : ∃ z, wordB z = true ∧ atI [V.str wR, V.str wW] r = some (.str z) := by
  have h : r = 0 ∨ r = 1 := by omega
  rcases h with rfl | rfl
  · exact ⟨wR, by decide +kernel, rfl⟩
  · exact ⟨wW, by decide +kernel, rfl⟩
theorem ok_dealing {f f1 f2 : Addr} {fd fd1 fd2 : FuncData} {k : Nat} (F : Fun K "_law_dealing" "_law_dealing" sDealing f fd) (M : Mg mg) (G1 : FnOk P w K mg base CX0 k f1 fd1 ["_law_state", "_law_base"] spDigit) (g1 : mg "_law_digit" = some (.ref f1)) (k1 : PySem.W.keepIn K (.ref f1) = true) (b1 : Binds K fd1 ["_law_state", "_law_base"] [])
    (G2 : FnOk P w K mg base CX0 k f2 fd2 ["_law_state", "_law_few"] spBox) (g2 : mg "_law_box" = some (.ref f2)) (k2 : PySem.W.keepIn K (.ref f2) = true) (b2 : Binds K fd2 ["_law_state", "_law_few"] []) :
    FnOk P w K mg base CX0 (k + 1) f fd ["_law_state", "_law_few", "_law_most"] spDealing := by
  refine F.ok scDealing (fun vs H Q E h => ?_) (fun cdv A outer s H vs Q E hr h => ?_)
  · obtain ⟨st, b, m, rfl, _⟩ := h
    rfl
  · obtain ⟨st, b, m, rfl, hW, hb0, hb1, hm0, hm1, q⟩ := h
    refine ⟨_, pss_cons (ps_set (i := 3) scDealing.nd rfl (.inl rfl) (pe_lst pa_nil))
      (pss_cons (ps_for PassesOwn.never rfl (pi_range1 (by rfl) M.range (pa_cons (pe_add pe_int (pe_call G1 hr (by rfl) g1 k1 b1 .nil pass0 (pa_cons (pv 0) (pa_cons (pv 2) pa_nil)))) pa_nil)) (pg_name (i := 4) scDealing.nd rfl (.inl rfl))
        (pss_cons (ps_set (i := 5) scDealing.nd rfl (.inl rfl) (pe_ix ix_list (pe_lst (pa_cons pe_str (pa_cons pe_str pa_nil))) (pe_call G1 hr (by rfl) g1 k1 b1 .nil pass0 (pa_cons (pv 0) (pa_cons pe_int pa_nil))) (fun _ _ => rfl)))
        (pss_cons (ps_set (i := 6) scDealing.nd rfl (.inl rfl) (pe_tup (pa_cons (pv 5) (pa_cons (pe_call G2 hr (by rfl) g2 k2 b2 .nil pass0 (pa_cons (pv 0) (pa_cons (pv 1) pa_nil))) pa_nil))))
        (pss_one (ps_if (PW.pt (pw_and (pt_cmpR (op_notInD (hu65 hr)) (pv 6) (pv 3) (by rfl)) (pw_and1 (pt_cmpR (op_notInD (hu65 hr)) (pe_tup (pa_cons pe_str (pa_cons (pe_ix ix_tup (pv 6) pe_int (fun _ _ => rfl)) pa_nil))) (pv 3) (by rfl)))))
          (pss_one (ps_expr (pe_bm PySem.F.plainAttrs_list PySem.F.slot_list_append PySem.F.type_list_append mt_append (pv 3) (pa_cons (pv 6) pa_nil)))) pss_nil)))))
      (pss_one (ps_ret (pe_callTy call_tuple_of (by rfl) M.tuple (by decide +kernel) (pa_cons (pv 3) pa_nil))))), ?_⟩
    refine ⟨Nat.zero_le _, fun o no => ?_⟩
    have nos : o ≠ st := hW.ne no
    refine ⟨.ref st, rfl, .int m, rfl, st, m, rfl, hW.same (same_new no), hm0, by omega, fun r H1 h0 h1 W1 e1 => ⟨1, r, rfl, rfl, 1 + r, rfl, by omega, by omega, ?_⟩⟩
    have ho1 : H1 o = some (.lst []) := e1 _ _ nos upd_same
    have eH1 : ExS st H H1 := (ExS.new no).trans e1
    refine for_range (lo := 0) (n := (1 + r).toNat) (fun i σ H' => ∃ y4 y5 y6 xs l, σ = [some (.ref st), some (.int b), some (.int m), some (.ref o), y4, y5, y6] ∧ H' o = some (.lst xs) ∧ TDs st H' xs (l.map stepD) ∧ l.length ≤ i ∧ (1 ≤ i → 1 ≤ l.length) ∧ StepsOk l ∧ follow mayP l = true ∧ Well st H' ∧ ExS st H H')
      ⟨none, none, none, [], [], rfl, ho1, .nil, Nat.le_refl _, fun z => absurd z (by decide), (fun p hp => absurd hp List.not_mem_nil), rfl, W1, eH1⟩ (fun i σ H2 hi hP => ?_) (fun σ H2 hP => ?_)
    · obtain ⟨y4, y5, y6, xs, l, rfl, ho, t, hl, hne, hok, hfo, W2, e2⟩ := hP
      -- word
      refine ⟨by show 2 ≤ sizeLine; decide, fun p np => ?_⟩
      refine ⟨.ref st, rfl, st, 2, rfl, W2.same (same_new np), by decide, by decide, fun r3 H3 h30 h31 W3 e3 => ?_⟩
      obtain ⟨z, wz, az⟩ := word_at h30 h31
      have np_st : p ≠ st := W2.ne np
      refine ⟨p, [.str wR, .str wW], r3, .str z, rfl, rfl, SqL.of (e3 _ _ np_st upd_same), az, ?_⟩
      have e23 : ExS st H2 H3 := (ExS.new np).trans e3
      -- step
      refine ⟨.str z, rfl, .ref st, rfl, .int b, rfl, st, b, rfl, W3, hb0, hb1, fun r4 H4 hb4 W4 e4 => ⟨by show 2 ≤ sizeLine; decide, fun p2 np2 => ?_⟩⟩
      have e24 : ExS st H2 H4 := e23.trans e4
      have np2_st : p2 ≠ st := W4.ne np2
      have e25 : ExS st H2 (upd H4 p2 (.tup [.str z, .int r4])) := e24.trans (ExS.new np2)
      have W5 : Well st (upd H4 p2 (.tup [.str z, .int r4])) := W4.same (same_new np2)
      have ho5 := e25 _ _ nos ho
      have t5 := t.mono e25
      have tp : TD st (upd H4 p2 (.tup [.str z, .int r4])) (.ref p2) (stepD (z, r4)) := .tup np2_st upd_same (.cons (.str _) (.cons (.int _) .nil))
      have wl : ∀ q ∈ l, wordB q.1 = true := fun q hq => (hok q hq).1
      refine ⟨.ref p2, rfl, .ref o, rfl, stepP (z, r4), l.map stepP, tp.stepDp, .lst (SqL.of ho5) t5.stepsDp, stepP_shaped wz, stepPs_shapedL wl, _, rfl, ?_⟩
      rw [any_step]
      cases h1m : decide ((z, r4) ∈ l) with
      | true =>
        refine iteF (iteF ?_)
        refine ⟨_, _, _, xs, l, rfl, ho5, t5, by omega, fun _ => ?_, hok, hfo, W5, e2.trans e25⟩
        exact List.length_pos_of_mem (of_decide_eq_true h1m)
      | false =>
        refine iteT ⟨.ref p2, rfl, p2, [.str z, .int r4], 1, .int r4, rfl, rfl, SqT.of upd_same, rfl, by show 2 ≤ sizeLine; decide, fun c nc => ?_⟩
        have e26 : ExS st H2 (upd (upd H4 p2 (.tup [.str z, .int r4])) c (.tup [.str wW, .int r4])) := e25.trans (ExS.new nc)
        have W6 := W5.same (same_new (o := .tup [.str wW, .int r4]) nc)
        have ho6 := e26 _ _ nos ho
        have t6 := t.mono e26
        refine ⟨.ref o, rfl, stepP (wW, r4), l.map stepP, .tup (SqT.of upd_same) (.cons (.str _) (.cons (.int _) .nil)), .lst (SqL.of ho6) t6.stepsDp, stepP_shaped (show wordB wW = true by decide +kernel), stepPs_shapedL wl, _, rfl, ?_⟩
        rw [any_step]
        cases h2m : decide ((wW, r4) ∈ l) with
        | true =>
          refine iteF ?_
          exact ⟨_, _, _, xs, l, rfl, ho6, t6, by omega, fun _ => List.length_pos_of_mem (of_decide_eq_true h2m), hok, hfo, W6, e2.trans e26⟩
        | false =>
          have hz : xs.length = l.length := by rw [t.length, List.length_map]
          refine iteT ⟨.ref o, rfl, .inl ⟨rfl, _, SqL.of ho6⟩, .ref p2, rfl, o, xs, .ref p2, rfl, rfl, ho6, sl_lt (by omega), ?_⟩
          refine ⟨_, _, _, xs ++ [.ref p2], l ++ [(z, r4)], rfl, upd_same, ?_, by rw [List.length_append]; show l.length + 1 ≤ i + 1; omega, fun _ => by rw [List.length_append]; show 1 ≤ l.length + 1; omega, ?_, follow_snoc hfo (by unfold mayP; rw [h1m, h2m]; rfl), ?_, ?_⟩
          · refine (t6.append (.cons (tp.mono (ExS.new nc)) .nil) |> fun h => ?_)
            have h' : TDs st (upd (upd H4 p2 (.tup [.str z, .int r4])) c (.tup [.str wW, .int r4])) (xs ++ [.ref p2]) ((l ++ [(z, r4)]).map stepD) := by
              rw [List.map_append]
              exact h
            refine h'.stepsT fun a ys na ha => ?_
            rw [upd_ne]
            · exact ha
            · intro e
              rw [e, ho6] at ha
              cases ha
          · intro q hq
            rcases List.mem_append.mp hq with h | h
            · exact hok q h
            · rw [List.mem_singleton.mp h]
              exact ⟨wz, hb4⟩
          · rcases W6 with ⟨c1, h⟩ | ⟨a1, b1, c1, h⟩
            · exact .inl ⟨c1, by rw [upd_ne (Ne.symm nos)]; exact h⟩
            · exact .inr ⟨a1, b1, c1, by rw [upd_ne (Ne.symm nos)]; exact h⟩
          · intro a u na ha
            rw [upd_ne (ne_of_none ha no)]
            exact (e2.trans e26) a u na ha
    · obtain ⟨y4, y5, y6, xs, l, rfl, ho, t, hl, hne, hok, hfo, W2, e2⟩ := hP
      refine ⟨.ref o, rfl, o, xs, rfl, .inl ⟨SqL.of ho, fun p np => q (.ref p) l _ (.tup (W2.ne np) upd_same (t.mono (ExS.new np))) (hne (by omega)) (by omega) hok hfo (W2.same (same_new np)) (e2.trans (ExS.new np))⟩⟩
end
end As

namespace As
open PySem PySem.Spec PyProof.Rows L2
/-! ### a list beside the empty one -/
def rEqNil (K : PySem.W.Frag) : R2 := fun x y H Q => ∃ a b xs, x = .ref a ∧ y = .ref b ∧ SqL K H a xs ∧ SqL K H b [] ∧ Q (.bl xs.isEmpty) H
theorem op_eqNil {X : Cx} (hu : X.A.units < cLine) : OpR X (compareOp .Eq) (rEqNil X.K) := by
  intro pins s σ H x y v u Q I rx ry h
  obtain ⟨a, b, xs, rfl, rfl, ha, hb, q⟩ := h
  cases rx
  cases ry
  obtain ⟨its, rv, p1, _⟩ := I.list ha
  obtain ⟨its2, rv2, p2, _⟩ := I.list hb
  cases rv2
  cases xs with
  | nil =>
    cases rv
    exact SeqAt.eq_listAt p1.isList p2.isList rfl hu (e := fun _ => true) (fun j h1 _ => absurd h1 (Nat.not_lt_zero _)) ⟨.bl true, H, I, rfl, q⟩
  | cons x xs =>
    cases rv with
    | cons r1 r2 => exact SeqAt.eq_list_lengthsAt p1.isList p2.isList (by simp) hu ⟨.bl false, H, I, rfl, q⟩
/-! ### data picked, cut, put together -/
theorem TDs.pick {st : Addr} {H : Hp} {xs : List V} {ds : List D} {r : Int} (t : TDs st H xs ds) (h0 : 0 ≤ r) (h1 : r < xs.length) : ∃ v d, atI xs r = some v ∧ TD st H v d := by
  obtain ⟨j, rfl⟩ : ∃ j : Nat, r = (j : Int) := ⟨r.toNat, by omega⟩
  have hj : j < xs.length := by omega
  have hx : xs[j]? = some xs[j] := List.getElem?_eq_getElem hj
  obtain ⟨d, _, td⟩ := t.get hx
  exact ⟨xs[j], d, atI_nat hx, td⟩
theorem cat_ok {K : PySem.W.Frag} {st a b : Addr} {H : Hp} {ds es : List D} {Q : VK} (W : Well st H) (ta : TD st H (.ref a) (.tup ds)) (tb : TD st H (.ref b) (.tup es)) (hl : ds.length + es.length ≤ 1000)
    (q : ∀ c H', TD st H' (.ref c) (.tup (ds ++ es)) → Same H H' → Q (.ref c) H') : rCatA K (.ref a) (.ref b) H Q := by
  cases ta with
  | @tup a xs _ na ha t1 =>
    cases tb with
    | @tup b ys _ nb hb t2 =>
      have l1 := t1.length
      have l2 := t2.length
      refine ⟨a, b, xs, ys, rfl, rfl, SqT.of ha, SqT.of hb, sl_of (by omega), fun e => ?_, fun _ e => ?_, fun _ _ p np => ?_⟩
      · subst e
        cases t1
        exact q b H (.tup nb hb t2) (Same.refl H)
      · subst e
        cases t2
        refine q a H ?_ (Same.refl H)
        rw [List.append_nil]
        exact .tup na ha t1
      · exact q p _ (.tup (W.ne np) upd_same ((t1.append t2).mono (ExS.new np))) (same_new np)
theorem sl_ok {K : PySem.W.Frag} {st a : Addr} {H : Hp} {ds : List D} {lo hi : Option Int} {Q : VK} (W : Well st H) (ta : TD st H (.ref a) (.tup ds))
    (q : ∀ c H' es, TD st H' (.ref c) (.tup es) → es.length ≤ ds.length → Same H H' → Q (.ref c) H') : rSlA K (.ref a) lo hi H Q := by
  cases ta with
  | @tup a xs _ na ha t1 =>
    have l1 := t1.length
    refine ⟨a, xs, rfl, SqT.of ha, fun _ => q a H ds (.tup na ha t1) (Nat.le_refl _) (Same.refl H), fun _ p np => ?_⟩
    have t2 := (t1.drop (HT.sIx xs.length 0 lo)).take (HT.sIx xs.length xs.length hi - HT.sIx xs.length 0 lo)
    refine q p _ _ (.tup (W.ne np) upd_same (t2.mono (ExS.new np))) ?_ (same_new np)
    rw [List.length_take, List.length_drop]
    omega
theorem slL_ok {K : PySem.W.Frag} {st a : Addr} {H : Hp} {ds : List D} {lo hi : Option Int} {Q : VK} (W : Well st H) (ta : TD st H (.ref a) (.lst ds))
    (q : ∀ c H' es, TD st H' (.ref c) (.lst es) → es.length ≤ ds.length → Same H H' → Q (.ref c) H') : rSlL K (.ref a) lo hi H Q := by
  cases ta with
  | @lst a xs _ na ha t1 =>
    have l1 := t1.length
    refine ⟨a, xs, rfl, SqL.of ha, fun p np => ?_⟩
    have t2 := (t1.drop (HT.sIx xs.length 0 lo)).take (HT.sIx xs.length xs.length hi - HT.sIx xs.length 0 lo)
    refine q p _ _ (.lst (W.ne np) upd_same (t2.mono (ExS.new np))) ?_ (same_new np)
    rw [List.length_take, List.length_drop]
    omega
theorem catL_ok {st a b : Addr} {H : Hp} {ds es : List D} {Q : VK} (W : Well st H) (ta : TD st H (.ref a) (.lst ds)) (tb : TD st H (.ref b) (.lst es)) (hl : ds.length + es.length ≤ 1000)
    (q : ∀ c H', TD st H' (.ref c) (.lst (ds ++ es)) → Same H H' → Q (.ref c) H') : rCat (.ref a) (.ref b) H Q := by
  cases ta with
  | @lst a xs _ na ha t1 =>
    cases tb with
    | @lst b ys _ nb hb t2 =>
      have l1 := t1.length
      have l2 := t2.length
      exact ⟨a, b, xs, ys, rfl, rfl, ha, hb, sl_of (by omega), fun p np => q p _ (.lst (W.ne np) upd_same ((t1.append t2).mono (ExS.new np))) (same_new np)⟩
/-! ### lists of steps -/
theorem prs_one {ds : List D} {l : List Pr} {d : D} {p : Pr} : prs ds = some l → asPr d = some p → prs (ds ++ [d]) = some (l ++ [p]) := by
  intro h1 h2
  obtain ⟨e1, w1⟩ := prs_some h1
  obtain ⟨e2, w2⟩ := asPr_some h2
  have e : ds ++ [d] = (l ++ [p]).map stepD := by
    rw [e1, e2, List.map_append]
    rfl
  rw [e]
  refine prs_of fun q hq => ?_
  rcases List.mem_append.mp hq with h | h
  · exact w1 q h
  · rw [List.mem_singleton.mp h]
    exact w2
theorem prs_take {ds : List D} {l : List Pr} (h : prs ds = some l) (i : Nat) : prs (ds.take i) = some (l.take i) := by
  obtain ⟨e1, w1⟩ := prs_some h
  rw [e1, ← List.map_take]
  exact prs_of fun q hq => w1 q (List.mem_of_mem_take hq)
theorem follow_all {m : Pr → List Pr → Bool} {l : List Pr} (h : ∀ i p, l[i]? = some p → m p (l.take i) = true) : follow m l = true := by
  unfold follow
  rw [List.all_eq_true]
  intro i _
  split
  · rename_i p hp
    exact h i p hp
  · rfl
theorem follow_not {m : Pr → List Pr → Bool} {l : List Pr} {i : Nat} {p : Pr} (hp : l[i]? = some p) (h : m p (l.take i) = false) : follow m l = false := by
  cases hf : follow m l with
  | false => rfl
  | true =>
    unfold follow at hf
    rw [List.all_eq_true] at hf
    have := hf i (List.mem_range.mpr (List.getElem?_eq_some_iff.mp hp).1)
    rw [hp] at this
    have this' : m p (l.take i) = true := this
    rw [h] at this'
    exact absurd this' Bool.false_ne_true
theorem isDealing_noStep {ds : List D} {d : D} {i : Nat} (hd : ds[i]? = some d) (h : isStep d = false) : isDealing (.tup ds) = false := by
  have hn : prs ds = none := by
    cases hp : prs ds with
    | none => rfl
    | some l =>
      have h1 := prs_isSome ds
      rw [hp] at h1
      have h2 : ds.all isStep = true := h1.symm
      rw [List.all_eq_true] at h2
      have := h2 d (List.mem_of_getElem? hd)
      rw [h] at this
      exact absurd this Bool.false_ne_true
  rw [isDealing_eq, hn, Bool.and_false]
theorem isDealing_noFollow {ds : List D} {d : D} {l : List Pr} {p : Pr} {i : Nat} (hd : ds[i]? = some d) (hp : asPr d = some p) (hl : prs (ds.take i) = some l) (h : mayP p l = false) : isDealing (.tup ds) = false := by
  rw [isDealing_eq]
  cases hq : prs ds with
  | none => rw [Bool.and_false]
  | some m =>
    have e1 : l = m.take i := Option.some.inj (hl.symm.trans (prs_take hq i))
    obtain ⟨e2, w2⟩ := prs_some hq
    have e3 : m[i]? = some p := by
      rw [e2, List.getElem?_map] at hd
      cases hm : m[i]? with
      | none => rw [hm] at hd; cases hd
      | some q =>
        rw [hm] at hd
        have e4 : stepD q = d := Option.some.inj hd
        have wq := w2 q (List.mem_of_getElem? hm)
        rw [← e4, asPr_step wq.1 wq.2] at hp
        exact hp
    rw [e1] at h
    show (_ && follow mayP m) = false
    rw [follow_not e3 h, Bool.and_false]
end As

namespace As
open PySem PySem.Spec PyProof.Rows L2 TL NumText
/-! ### figures -/
def isDig (c : Nat) : Bool := decide (48 ≤ c) && decide (c ≤ 57)
def figB (ds : List Nat) : Bool := decide (ds ≠ []) && decide (ds.length ≤ 9) && ds.all isDig && (decide (ds = [48]) || decide (ds.head? ≠ some 48))
theorem digs_of {ds : List Nat} (h : ds.all isDig = true) : AllDigits ds := fun c hc => by
  have := List.all_eq_true.mp h c hc
  unfold isDig at this
  rw [Bool.and_eq_true, decide_eq_true_eq, decide_eq_true_eq] at this
  exact this
theorem digs_all {ds : List Nat} (h : AllDigits ds) : ds.all isDig = true := List.all_eq_true.mpr fun c hc => by
  have := h c hc
  unfold isDig
  rw [decide_eq_true this.1, decide_eq_true this.2]
  rfl
theorem val_snoc (ds : List Nat) (c : Nat) : digitsVal (ds ++ [c]) = digitsVal ds * 10 + (c - 48) := by
  unfold digitsVal
  rw [List.foldl_append]
  rfl
theorem foldl_ge : ∀ (ds : List Nat) (a : Nat), 1 ≤ a → 1 ≤ ds.foldl (fun acc c => acc * 10 + (c - 48)) a
  | [], _, h => h
  | c :: ds, a, h => foldl_ge ds (a * 10 + (c - 48)) (by omega)
theorem val_pos {ds : List Nat} (h : AllDigits ds) (h1 : ds ≠ []) (h2 : ds.head? ≠ some 48) : 1 ≤ digitsVal ds := by
  cases ds with
  | nil => exact absurd rfl h1
  | cons c ds =>
    have hc := h.head
    have : c ≠ 48 := fun e => h2 (by rw [e]; rfl)
    exact foldl_ge ds (0 * 10 + (c - 48)) (by omega)
theorem num_back : ∀ (n : Nat) {ds : List Nat}, ds.length = n → AllDigits ds → ds ≠ [] → ds.head? ≠ some 48 → numL (digitsVal ds) = ds
  | 0, ds, hl, _, h, _ => absurd (List.eq_nil_of_length_eq_zero hl) h
  | n + 1, ds, hl, hd, hne, hh => by
    obtain ⟨ds', c, rfl⟩ : ∃ ds' c, ds = ds' ++ [c] := ⟨ds.dropLast, ds.getLast hne, (List.dropLast_concat_getLast hne).symm⟩
    have hc := hd c (List.mem_append_right _ (List.mem_singleton.mpr rfl))
    have hd' : AllDigits ds' := fun x hx => hd x (List.mem_append_left _ hx)
    rw [val_snoc]
    by_cases h0 : ds' = []
    · subst h0
      show numL (0 * 10 + (c - 48)) = [c]
      rw [numL_lt (by omega), show 48 + (0 * 10 + (c - 48)) = c by omega]
    · have hh' : ds'.head? ≠ some 48 := fun e => hh (by
        cases ds' with
        | nil => exact absurd rfl h0
        | cons a r => exact e)
      have hv := val_pos hd' h0 hh'
      have ih := num_back n (ds := ds') (by rw [List.length_append] at hl; exact Nat.succ.inj hl) hd' h0 hh'
      rw [numL_step (by omega), show (digitsVal ds' * 10 + (c - 48)) / 10 = digitsVal ds' by omega, ih, show 48 + (digitsVal ds' * 10 + (c - 48)) % 10 = c by omega]
theorem figB_num {ds : List Nat} (h : figB ds = true) : numL (digitsVal ds) = ds := by
  unfold figB at h
  simp only [Bool.and_eq_true, Bool.or_eq_true, decide_eq_true_eq] at h
  obtain ⟨⟨⟨h1, h2⟩, h3⟩, h4⟩ := h
  rcases h4 with h4 | h4
  · subst h4
    exact numL_lt (n := 0) (by decide)
  · exact num_back _ rfl (digs_of h3) h1 h4
theorem num_head : ∀ (n : Nat), 1 ≤ n → (numL n).head? ≠ some 48 := fun n => by
  induction n using Nat.strongRecOn with
  | _ n ih =>
    intro h
    by_cases h10 : n < 10
    · rw [numL_lt h10]
      intro z
      have z' : 48 + n = 48 := Option.some.inj z
      omega
    · rw [numL_step (by omega)]
      have h2 := ih (n / 10) (by omega) (by omega)
      have h3 := numL_ne (n / 10)
      cases hq : numL (n / 10) with
      | nil => exact absurd hq h3
      | cons a r =>
        rw [hq] at h2
        exact h2
theorem num_figB {n : Nat} (h : n < 10 ^ 9) : figB (numL n) = true := by
  unfold figB
  simp only [Bool.and_eq_true, Bool.or_eq_true, decide_eq_true_eq]
  refine ⟨⟨⟨numL_ne n, numL_len (by decide) h⟩, digs_all (numL_digits n)⟩, ?_⟩
  by_cases h0 : n = 0
  · subst h0
    exact .inl (numL_lt (n := 0) (by decide))
  · exact .inr (num_head n (by omega))
/-! ### words -/
def pw : List Nat → Option Pr
  | [] => none
  | c :: ds => if figB ds = true then (if c = 114 then some (wR, (digitsVal ds : Int)) else if c = 119 then some (wW, (digitsVal ds : Int)) else none) else none
def wrW (p : Pr) : List Nat := (if p.1 = wR then 114 else 119) :: numL p.2.toNat
theorem wWR : ¬ wW = wR := by decide
theorem pw_back {w : List Nat} {p : Pr} (h : pw w = some p) : wrW p = w ∧ wordB p.1 = true ∧ 0 ≤ p.2 := by
  cases w with
  | nil => cases h
  | cons c ds =>
    have h' : (if figB ds = true then (if c = 114 then some (wR, (digitsVal ds : Int)) else if c = 119 then some (wW, (digitsVal ds : Int)) else none) else none) = some p := h
    by_cases hf : figB ds = true
    · rw [if_pos hf] at h'
      by_cases h1 : c = 114
      · rw [if_pos h1] at h'
        have e := Option.some.inj h'
        subst e h1
        refine ⟨?_, show wordB wR = true by decide +kernel, Int.natCast_nonneg _⟩
        show (if wR = wR then 114 else 119) :: numL ((digitsVal ds : Int)).toNat = _
        rw [if_pos rfl, Int.toNat_natCast, figB_num hf]
      · rw [if_neg h1] at h'
        by_cases h2 : c = 119
        · rw [if_pos h2] at h'
          have e := Option.some.inj h'
          subst e h2
          refine ⟨?_, show wordB wW = true by decide +kernel, Int.natCast_nonneg _⟩
          show (if wW = wR then 114 else 119) :: numL ((digitsVal ds : Int)).toNat = _
          rw [if_neg wWR, Int.toNat_natCast, figB_num hf]
        · rw [if_neg h2] at h'
          cases h'
    · rw [if_neg hf] at h'
      cases h'
theorem pw_wr {p : Pr} (h1 : wordB p.1 = true) (h2 : boxB p.2 = true) : pw (wrW p) = some p := by
  unfold boxB at h2
  rw [Bool.and_eq_true, decide_eq_true_eq, decide_eq_true_eq] at h2
  obtain ⟨z, i⟩ := p
  have hn : figB (numL i.toNat) = true := num_figB (by
    have : i ≤ 100000000 := h2.2
    have h3 : (10 : Nat) ^ 9 = 1000000000 := by decide
    omega)
  have hi : 0 ≤ i := h2.1
  unfold wordB at h1
  rw [Bool.or_eq_true, decide_eq_true_eq, decide_eq_true_eq] at h1
  show (if figB (numL i.toNat) = true then _ else none) = _
  rw [if_pos hn, numL_val, show ((i.toNat : Nat) : Int) = i by omega]
  rcases h1 with h | h
  · have h' : z = wR := h
    subst h'
    show (if (if wR = wR then 114 else 119) = 114 then _ else _) = _
    rw [if_pos rfl, if_pos rfl]
  · have h' : z = wW := h
    subst h'
    show (if (if wW = wR then 114 else 119) = 114 then _ else (if (if wW = wR then 114 else 119) = 119 then _ else _)) = _
    rw [if_neg wWR, if_neg (by decide), if_pos rfl]
theorem wr_free (p : Pr) : 32 ∉ wrW p := fun h => by
  unfold wrW at h
  rcases List.mem_cons.mp h with h | h
  · split at h <;> cases h
  · exact numL_free (.inl (by decide)) h
/-! ### splitting -/
theorem pre1 (c : Nat) (r : List Nat) : pre [32] (c :: r) = decide (c = 32) := by
  unfold pre
  show ([c] == [32]) = _
  by_cases h : c = 32
  · subst h
    rfl
  · rw [decide_eq_false h]
    refine beq_eq_false_iff_ne.mpr fun z => h ?_
    exact (List.cons.inj z).1
theorem spl_ne : ∀ (L acc : List Nat), spl [32] 0 acc L ≠ []
  | [], acc => by rw [spl_nil]; simp
  | c :: r, acc => by
    by_cases h : c = 32
    · rw [spl_hit (by rw [pre1]; exact decide_eq_true h)]
      simp
    · rw [spl_miss (by rw [pre1]; exact decide_eq_false h)]
      exact spl_ne r _
theorem join_spl : ∀ (L acc : List Nat), joinL [32] (spl [32] 0 acc L) = acc ++ L
  | [], acc => by rw [spl_nil, List.append_nil]; rfl
  | c :: r, acc => by
    by_cases h : c = 32
    · rw [spl_hit (by rw [pre1]; exact decide_eq_true h)]
      show joinL [32] (acc :: spl [32] 0 [] r) = _
      have ih := join_spl r []
      cases hs : spl [32] 0 [] r with
      | nil => exact absurd hs (spl_ne r [])
      | cons a t =>
        rw [hs] at ih
        show acc ++ ([32] ++ joinL [32] (a :: t)) = _
        rw [ih, h]
        rfl
    · rw [spl_miss (by rw [pre1]; exact decide_eq_false h), join_spl r, List.append_assoc]
      rfl
theorem spl_small : ∀ (L acc : List Nat), (spl [32] 0 acc L).length ≤ L.length + 1 ∧ ∀ p ∈ spl [32] 0 acc L, p.length ≤ acc.length + L.length
  | [], acc => by
    rw [spl_nil]
    refine ⟨Nat.le_refl _, fun p hp => ?_⟩
    rw [List.mem_singleton.mp hp]
    exact Nat.le_refl _
  | c :: r, acc => by
    by_cases h : c = 32
    · rw [spl_hit (by rw [pre1]; exact decide_eq_true h)]
      obtain ⟨h1, h2⟩ := spl_small r []
      refine ⟨by show (spl [32] 0 [] r).length + 1 ≤ r.length + 1 + 1; omega, fun p hp => ?_⟩
      rcases List.mem_cons.mp hp with e | e
      · rw [e]
        omega
      · have h3 := h2 p e
        have h4 : ([] : List Nat).length = 0 := rfl
        rw [List.length_cons]
        omega
    · rw [spl_miss (by rw [pre1]; exact decide_eq_false h)]
      obtain ⟨h1, h2⟩ := spl_small r (acc ++ [c])
      refine ⟨by rw [List.length_cons]; omega, fun p hp => ?_⟩
      have h3 := h2 p hp
      rw [List.length_append] at h3
      rw [List.length_cons]
      have h4 : ([c] : List Nat).length = 1 := rfl
      omega
def blank : Str := " "
theorem tl_blank : tl blank = [32] := by decide +kernel
def splW (t : Str) : List (List Nat) := spl [32] 0 [] (tl t)
theorem split_W (t : Str) : (Txt.split t blank).map tl = splW t := by
  have := split_spl t blank (by rw [tl_blank]; simp) (kind_ok (by decide +kernel))
  rw [tl_blank] at this
  exact this
/-! ### what is written so -/
def pD (w : List Nat) : D := match pw w with
  | some p => stepD p
  | none => .non
def rdD (t : Str) : D := .tup ((splW t).map pD)
def lw (w : List Nat) : Option Pr := match pw w with
  | some p => if p.2 ≤ 100000000 then some p else none
  | none => none
def lr : List (List Nat) → List Pr → Option (List Pr)
  | [], acc => if acc.length ≤ 8 then some acc else none
  | w :: ws, acc => match lw w with
    | none => none
    | some p => if mayL p acc = true then lr ws (acc ++ [p]) else none
def txt (l : List Pr) : Str := ⟨(joinL [32] (l.map wrW)).toArray⟩
theorem lw_some {w : List Nat} {p : Pr} (h : lw w = some p) : pw w = some p ∧ wordB p.1 = true ∧ boxB p.2 = true := by
  unfold lw at h
  split at h
  · rename_i q hq
    split at h
    · rename_i hb
      have e := Option.some.inj h
      subst e
      obtain ⟨_, h1, h2⟩ := pw_back hq
      refine ⟨hq, h1, ?_⟩
      unfold boxB
      rw [decide_eq_true h2, decide_eq_true hb]
      rfl
    · cases h
  · cases h
theorem lw_none {w : List Nat} (h : lw w = none) : isStep (pD w) = false := by
  unfold lw at h
  unfold pD
  split at h
  · rename_i q hq
    split at h
    · cases h
    · rename_i hb
      show (asPr (stepD q)).isSome = false
      show (if (wordB q.1 && boxB q.2) = true then some (q.1, q.2) else none).isSome = false
      have : boxB q.2 = false := by
        unfold boxB
        rw [decide_eq_false hb, Bool.and_false]
      rw [this, Bool.and_false]
      rfl
  · rfl
theorem lr_some : ∀ {ws : List (List Nat)} {acc l : List Pr}, (∀ p ∈ acc, wordB p.1 = true ∧ boxB p.2 = true) → follow mayP acc = true → lr ws acc = some l → ∃ r, l = acc ++ r ∧ ws.map pD = r.map stepD ∧ ws = r.map wrW ∧ (∀ p ∈ l, wordB p.1 = true ∧ boxB p.2 = true) ∧ follow mayP l = true ∧ l.length ≤ 8
  | [], acc, l, ha, hf, h => by
    have h' : (if acc.length ≤ 8 then some acc else none) = some l := h
    split at h'
    · rename_i h8
      have e := Option.some.inj h'
      subst e
      exact ⟨[], (List.append_nil _).symm, rfl, rfl, ha, hf, h8⟩
    · cases h'
  | w :: ws, acc, l, ha, hf, h => by
    cases hw : lw w with
    | none =>
      have h' : (match lw w with | none => none | some p => if mayL p acc = true then lr ws (acc ++ [p]) else none) = some l := h
      rw [hw] at h'
      cases h'
    | some p =>
      have h' : (match lw w with | none => none | some p => if mayL p acc = true then lr ws (acc ++ [p]) else none) = some l := h
      rw [hw] at h'
      obtain ⟨h1, h2, h3⟩ := lw_some hw
      by_cases hm : mayL p acc = true
      · rw [show (match some p with | none => none | some p => if mayL p acc = true then lr ws (acc ++ [p]) else none) = lr ws (acc ++ [p]) from if_pos hm] at h'
        have hmP : mayP p acc = true := by rw [may_eq h2]; exact hm
        obtain ⟨r, e1, e2, e3, e4, e5, e6⟩ := lr_some (acc := acc ++ [p]) (fun q hq => by
          rcases List.mem_append.mp hq with z | z
          · exact ha q z
          · rw [List.mem_singleton.mp z]
            exact ⟨h2, h3⟩) (follow_snoc hf hmP) h'
        refine ⟨p :: r, by rw [e1, List.append_assoc]; rfl, ?_, ?_, e4, e5, e6⟩
        · rw [List.map_cons, List.map_cons, e2]
          congr 1
          unfold pD
          rw [h1]
        · rw [List.map_cons, ← e3, (pw_back h1).1]
      · rw [show (match some p with | none => none | some p => if mayL p acc = true then lr ws (acc ++ [p]) else none) = none from if_neg hm] at h'
        cases h'
theorem lr_none : ∀ {ws : List (List Nat)} {acc : List Pr}, (∀ p ∈ acc, wordB p.1 = true ∧ boxB p.2 = true) → lr ws acc = none → isDealing (.tup (acc.map stepD ++ ws.map pD)) = false
  | [], acc, ha, h => by
    have h' : (if acc.length ≤ 8 then some acc else none) = none := h
    split at h'
    · cases h'
    · rename_i h8
      rw [isDealing_eq]
      rw [show decide ((acc.map stepD ++ ([] : List (List Nat)).map pD).length ≤ 8) = false from decide_eq_false (by rw [List.map_nil, List.append_nil, List.length_map]; exact h8), Bool.and_false, Bool.false_and]
  | w :: ws, acc, ha, h => by
    have h' : (match lw w with | none => none | some p => if mayL p acc = true then lr ws (acc ++ [p]) else none) = none := h
    have hat : (acc.map stepD ++ (w :: ws).map pD)[acc.length]? = some (pD w) := by
      rw [List.getElem?_append_right (by rw [List.length_map]; exact Nat.le_refl _), List.length_map, Nat.sub_self]
      rfl
    cases hw : lw w with
    | none => exact isDealing_noStep hat (lw_none hw)
    | some p =>
      rw [hw] at h'
      obtain ⟨h1, h2, h3⟩ := lw_some hw
      have epD : pD w = stepD p := by unfold pD; rw [h1]
      by_cases hm : mayL p acc = true
      · rw [show (match some p with | none => none | some p => if mayL p acc = true then lr ws (acc ++ [p]) else none) = lr ws (acc ++ [p]) from if_pos hm] at h'
        have ih := lr_none (acc := acc ++ [p]) (fun q hq => by
          rcases List.mem_append.mp hq with z | z
          · exact ha q z
          · rw [List.mem_singleton.mp z]
            exact ⟨h2, h3⟩) h'
        rw [List.map_append, List.append_assoc] at ih
        rw [List.map_cons, epD]
        exact ih
      · have hmP : mayP p acc = false := by
          rw [may_eq h2]
          exact Bool.eq_false_iff.mpr hm
        refine isDealing_noFollow (i := acc.length) (l := acc) (p := p) (by rw [← epD]; exact hat) (asPr_step h2 h3) ?_ hmP
        rw [List.take_append_of_le_length (by rw [List.length_map]; exact Nat.le_refl _), List.take_of_length_le (by rw [List.length_map]; exact Nat.le_refl _)]
        exact prs_of ha
def okL (l : List Pr) : Prop := (∀ p ∈ l, wordB p.1 = true ∧ boxB p.2 = true) ∧ 1 ≤ l.length ∧ l.length ≤ 8 ∧ follow mayP l = true
theorem okL_deal {l : List Pr} (h : okL l) : isDealing (.tup (l.map stepD)) = true := by
  obtain ⟨h1, h2, h3, h4⟩ := h
  rw [isDealing_eq, prs_of h1, List.length_map, decide_eq_true h2, decide_eq_true h3]
  exact h4
theorem read_yes {t : Str} {l : List Pr} (h : lr (splW t) [] = some l) : rdD t = .tup (l.map stepD) ∧ okL l ∧ txt l = t := by
  obtain ⟨r, e1, e2, e3, e4, e5, e6⟩ := lr_some (fun p hp => by cases hp) rfl h
  rw [List.nil_append] at e1
  subst e1
  refine ⟨by unfold rdD; rw [e2], ⟨e4, ?_, e6, e5⟩, ?_⟩
  · have h1 := spl_ne (tl t) []
    have h2 : (splW t).length = l.length := by rw [e3, List.length_map]
    cases l with
    | nil => exact absurd (List.eq_nil_of_length_eq_zero h2) h1
    | cons a r => exact Nat.succ_le_succ (Nat.zero_le _)
  · refine ext_tl ?_
    show joinL [32] (l.map wrW) = tl t
    rw [← e3]
    exact join_spl (tl t) []
theorem read_no {t : Str} (h : lr (splW t) [] = none) : isDealing (rdD t) = false := by
  have := lr_none (acc := []) (fun p hp => by cases hp) h
  exact this
theorem spl_txt {l : List Pr} (h : l ≠ []) : splW (txt l) = l.map wrW := by
  unfold splW
  show spl [32] 0 [] (joinL [32] (l.map wrW)) = _
  refine spl_join (fun z => h (List.map_eq_nil_iff.mp z)) fun p hp => ?_
  obtain ⟨q, _, rfl⟩ := List.mem_map.mp hp
  exact wr_free q
theorem rd_txt {l : List Pr} (h : okL l) : rdD (txt l) = .tup (l.map stepD) := by
  unfold rdD
  rw [spl_txt (fun z => by have := h.2.1; rw [z] at this; exact absurd this (by decide)), List.map_map]
  congr 1
  refine List.map_congr_left fun p hp => ?_
  show pD (wrW p) = stepD p
  unfold pD
  rw [pw_wr (h.1 p hp).1 (h.1 p hp).2]
end As

namespace As
open PySem PySem.Spec PyProof.Rows L2 TL NumText
abbrev sCheck : Stmt := topS 18
abbrev sText : Stmt := topS 19
abbrev sFigures : Stmt := topS 20
abbrev sRdStep : Stmt := topS 21
abbrev sRdDeal : Stmt := topS 22
theorem scCheck : FnScope ["thing"] ["thing"] (defScope sCheck) := ⟨rfl, rfl, rfl, by decide +kernel, rfl, by decide +kernel, by decide +kernel⟩
theorem scText : FnScope ["dealing", "box", "word"] ["dealing"] (defScope sText) := ⟨rfl, rfl, rfl, by decide +kernel, rfl, by decide +kernel, by decide +kernel⟩
theorem scFigures : FnScope ["text"] ["text"] (defScope sFigures) := ⟨rfl, rfl, rfl, by decide +kernel, rfl, by decide +kernel, by decide +kernel⟩
theorem scRdStep : FnScope ["word"] ["word"] (defScope sRdStep) := ⟨rfl, rfl, rfl, by decide +kernel, rfl, by decide +kernel, by decide +kernel⟩
theorem scRdDeal : FnScope ["text", "dealing", "word"] ["text"] (defScope sRdDeal) := ⟨rfl, rfl, rfl, by decide +kernel, rfl, by decide +kernel, by decide +kernel⟩
/-- an error's class as the top leaves it -/
structure Er (K : PySem.W.Frag) (mg : Str → Option Value) (x : Str) (CA C : Addr) : Prop where
  g : mg x = some (.ref C)
  x : PySem.W.excIn K C [.type "ValueError", .type "Exception", .type "BaseException", .type "object"] "ValueError.__new__" = true
  k : PySem.W.keepIn K (.ref C) = true
  b : PySem.W.subIn K (.ref C) (.type "BaseException") = some true
  t : PySem.W.typeIn K (.ref C) = some (.type "type")
  eA : PySem.W.exmOne K (.ref C) (.ref CA) = some true
  eC : ExcC K C
def lR : Str := "r"
def lW : Str := "w"
/-- the two dicts -/
structure Dc (K : PySem.W.Frag) (w : World) (mg : Str → Option Value) (dL dW : Addr) : Prop where
  gL : mg "LETTERS" = some (.ref dL)
  gW : mg "WORDS" = some (.ref dW)
  lR : KDct K w dL As.wR (.str As.lR)
  lW : KDct K w dL As.wW (.str As.lW)
  kd : ∃ es n, KDict K w dW es n
  wR : KDct K w dW As.lR (.str As.wR)
  wW : KDct K w dW As.lW (.str As.wW)
  no : ∀ z, z ≠ As.lR → z ≠ As.lW → PySem.W.nsIn K dW z = some none
section
variable {P : Program} {w : World} {K : PySem.W.Frag} {mg : Str → Option Value} {base : Heap} {CA CD CS CT : Addr} {dL dW : Addr}
/-! ### f-texts -/
def tJn (ts : List TE) : TE := fun σ H Q => tJs ts Str.empty σ H fun out H1 => Q (.str out) H1
theorem pe_joinedN {X : Cx} {v1 v2 : Expr} {rest : List Expr} {ts : List TE} {pos : Pos} (h : PJ X (v1 :: v2 :: rest) ts) : PE X (.JoinedStr (v1 :: v2 :: rest) pos) (tJn ts) := pe_joined h
/-! ### check_dealing -/
def spCheck (CD : Addr) : Sp := fun vs H Q E => ∃ st v d, vs = [v] ∧ TD st H v d ∧ (isDealing d = true → ∀ H', Same H H' → Q .non H') ∧ (isDealing d = false → ∀ H', Same H H' → E (.ref CD) none H')
theorem ok_check {f f1 : Addr} {fd fd1 : FuncData} {k : Nat} (F : Fun K "check_dealing" "check_dealing" sCheck f fd) (T : Er K mg "NoDealing" CA CD) (G1 : FnOk P w K mg base CX0 k f1 fd1 ["thing"] (spD isDealing)) (g1 : mg "is_dealing" = some (.ref f1)) (k1 : PySem.W.keepIn K (.ref f1) = true) (b1 : Binds K fd1 ["thing"] []) :
    FnOk P w K mg base (L2.CX P w) (k + 1) f fd ["thing"] (spCheck CD) := by
  refine F.okX scCheck (fun vs H Q E h => ?_) (fun cdv A outer s H vs Q E hr h => ?_)
  · obtain ⟨st, v, d, rfl, _⟩ := h
    rfl
  · obtain ⟨st, v, d, rfl, td, q1, q2⟩ := h
    refine ⟨_, pss_one (ps_if (pt_not (pt_val (pe_call G1 hr (by rfl) g1 k1 b1 .nil pass0 (pa_cons (pv 0) pa_nil)))) (pss_one (ps_raise rfl (takes_of rfl rfl rfl rfl) (pmk_own PySem.F.excBase_ValueError T.x T.g T.k (raises_own T.b T.t) (by rfl)))) pss_nil), ?_⟩
    refine ⟨v, rfl, st, v, d, rfl, td, fun H1 e1 => ⟨_, rfl, ?_⟩⟩
    cases hd : isDealing d with
    | true => exact iteF (q1 hd H1 e1)
    | false => exact iteT (q2 hd H1 e1)
/-! ### dealing_text -/
theorem isDealing_true {d : D} (h : isDealing d = true) : ∃ l, d = .tup (l.map stepD) ∧ okL l := by
  cases d with
  | tup ds =>
    rw [isDealing_eq, Bool.and_eq_true, Bool.and_eq_true, decide_eq_true_eq, decide_eq_true_eq] at h
    obtain ⟨⟨h1, h8⟩, hf⟩ := h
    cases hp : prs ds with
    | none => rw [hp] at hf; cases hf
    | some l =>
      rw [hp] at hf
      obtain ⟨e, ok⟩ := prs_some hp
      subst e
      rw [List.length_map] at h1 h8
      exact ⟨l, rfl, ok, h1, h8, hf⟩
  | _ => cases h
def spText (CD : Addr) : Sp := fun vs H Q E => ∃ st v d, vs = [v] ∧ TD st H v d ∧
  (∀ l, okL l → d = .tup (l.map stepD) → ∀ H', Same H H' → Q (.str (txt l)) H') ∧ (isDealing d = false → ∀ H', Same H H' → E (.ref CD) none H')
theorem pr_at {st : Addr} {H : Hp} {xs : List V} {l : List Pr} {i : Nat} {x : V} (t : TDs st H xs (l.map stepD)) (hx : xs[i]? = some x) : ∃ h : i < l.length, ∃ b, x = .ref b ∧ b ≠ st ∧ H b = some (.tup [.str l[i].1, .int l[i].2]) := by
  obtain ⟨d, hd, td⟩ := t.get hx
  rw [List.getElem?_map] at hd
  cases hl : l[i]? with
  | none => rw [hl] at hd; cases hd
  | some p =>
    rw [hl] at hd
    have e : stepD p = d := Option.some.inj hd
    subst e
    obtain ⟨h, e⟩ := List.getElem?_eq_some_iff.mp hl
    subst e
    exact ⟨h, td.stepV⟩
theorem getD_at {l : List Pr} {i : Nat} (h : i < l.length) (d : Pr) : l.getD i d = l[i] := by
  rw [List.getD_eq_getElem?_getD, List.getElem?_eq_getElem h]
  rfl
def letS (z : Str) : Str := if z = wR then lR else lW
theorem tl_lR : tl lR = [114] := by decide +kernel
theorem tl_lW : tl lW = [119] := by decide +kernel
theorem let_wr {p : Pr} (h : 0 ≤ p.2) : letS p.1 ++ (toString p.2 : Str) = SX.S (wrW p) := by
  obtain ⟨z, i⟩ := p
  obtain ⟨n, rfl⟩ : ∃ n : Nat, i = (n : Int) := ⟨i.toNat, by have h' : 0 ≤ i := h; omega⟩
  refine ext_tl ?_
  rw [tl_append, tl_num]
  unfold letS wrW
  show tl (if z = wR then lR else lW) ++ numL n = (if z = wR then 114 else 119) :: numL ((n : Int)).toNat
  rw [Int.toNat_natCast]
  by_cases hz : z = wR
  · rw [if_pos hz, if_pos hz, tl_lR]
    rfl
  · rw [if_neg hz, if_neg hz, tl_lW]
    rfl
theorem emp_cat (z : Str) : Str.empty ++ z = z := ext_tl (by rw [tl_append]; rfl)
theorem box_log {i : Int} (h0 : 0 ≤ i) (h1 : i ≤ 100000000) : i.natAbs.log2 < 1920 := by
  by_cases hz : i.natAbs = 0
  · rw [hz]
    decide
  · refine (Nat.log2_lt hz).mpr ?_
    have h2 : (2 : Nat) ^ 27 ≤ 2 ^ 1920 := Nat.pow_le_pow_right (by decide) (by decide)
    have h3 : (2 : Nat) ^ 27 = 134217728 := by decide
    omega
theorem blank_S : blank = SX.S [32] := ext_tl tl_blank
theorem wr_len {p : Pr} (h : boxB p.2 = true) : (wrW p).length ≤ 10 := by
  unfold boxB at h
  rw [Bool.and_eq_true, decide_eq_true_eq, decide_eq_true_eq] at h
  show (numL p.2.toNat).length + 1 ≤ 10
  have : (numL p.2.toNat).length ≤ 9 := numL_len (by decide) (by
    have h3 : (10 : Nat) ^ 9 = 1000000000 := by decide
    have := h.2
    omega)
  omega
theorem sum_le {α : Type} (g : α → Nat) (b : Nat) : ∀ (l : List α), (∀ p ∈ l, g p ≤ b) → (l.map g).sum ≤ l.length * b
  | [], _ => by simp
  | p :: l, h => by
    have h1 := sum_le g b l fun q hq => h q (List.mem_cons_of_mem _ hq)
    have h2 := h p (List.mem_cons_self ..)
    rw [List.map_cons, List.sum_cons, List.length_cons, Nat.add_mul, Nat.one_mul]
    omega
theorem ok_text {f f1 : Addr} {fd fd1 : FuncData} {k : Nat} (F : Fun K "dealing_text" "dealing_text" sText f fd) (M : Mg mg) (Z : Dc K w mg dL dW) (G1 : FnOk P w K mg base (L2.CX P w) k f1 fd1 ["thing"] (spCheck CD)) (g1 : mg "check_dealing" = some (.ref f1)) (k1 : PySem.W.keepIn K (.ref f1) = true) (b1 : Binds K fd1 ["thing"] []) :
    FnOk P w K mg base (L2.CX P w) (k + 1) f fd ["dealing"] (spText CD) := by
  refine F.okX scText (fun vs H Q E h => ?_) (fun cdv A outer s H vs Q E hr h => ?_)
  · obtain ⟨st, v, d, rfl, _⟩ := h
    rfl
  · obtain ⟨st, v, d, rfl, td, q1, q2⟩ := h
    refine ⟨_, pss_cons (ps_expr (pe_call (E := E) G1 hr (by rfl) g1 k1 b1 .nil (passes_call (takes_of rfl rfl rfl rfl) (fun _ _ _ _ h => h)) (pa_cons (pv 0) pa_nil)))
      (pss_one (ps_ret (pe_join pe_str
        (pe_lc (own := [("word", 2), ("box", 1)]) (g := gTup K 2 (gCons (gName 2) (gCons (gName 1) gNil))) (by rfl) scText.nd (pi_tup (pv 0)) (blkOk_by (own := [("word", 2), ("box", 1)]) (N := ["dealing", "box", "word"]) (sc := defScope sText) (by decide +kernel))
        (fun _ _ _ _ _ => pg_tup rfl (pgs_cons (pg_name (i := 2) scText.nd rfl (Or.inl rfl)) (pgs_cons (pg_name (i := 1) scText.nd rfl (Or.inl rfl)) pgs_nil))) (fun _ _ _ _ _ => pts_nil)
        (fun _ _ _ _ _ => pe_joinedN (.cons (pe_fmt (pe_ix (show IxR _ (rIxD K w) from ix_kdict) (pe_glob (v := .ref dL) (by rfl) Z.gL rfl) (pv 2) (fun _ _ => rfl))) (.cons (pe_fmt (pv 1)) .nil))))))), ?_⟩
    refine ⟨v, rfl, st, v, d, rfl, td, fun hd H1 e1 => ?_, q2⟩
    obtain ⟨l, rfl, ok⟩ := isDealing_true hd
    have q := q1 l ok rfl
    have td1 := td.mono (.of e1)
    cases td1 with
    | @tup a xs _ n h t =>
    have hl : xs.length = l.length := by rw [t.length, List.length_map]
    have h8 : l.length ≤ 8 := ok.2.2.1
    refine ⟨⟨_, rfl⟩, .ref a, rfl, a, rfl, ⟨_, SqT.of h⟩, fun D1 hD1 => ?_⟩
    refine lc_kept (walk_tup (xs := xs)) (fun _ => true) (fun i => .str (SX.S (wrW (l.getD i (wR, 0))))) hD1 (by omega) (fun H' e => SqT.of (e _ _ h)) (fun i x H2 H3 N R hi e2 y hN hR => ?_) (fun H2 e2 hL => ?_)
    · obtain ⟨rfl, hx⟩ := y
      obtain ⟨hil, b, rfl, nb, hb⟩ := pr_at t hx
      simp only [getD_at hil] at hN hR
      have okp := ok.1 _ (List.getElem_mem hil)
      have bp := okp.2
      unfold boxB at bp
      rw [Bool.and_eq_true, decide_eq_true_eq, decide_eq_true_eq] at bp
      have hlet : KDct K w dL l[i].1 (.str (letS l[i].1)) := by
        have wp := okp.1
        unfold wordB at wp
        rw [Bool.or_eq_true, decide_eq_true_eq, decide_eq_true_eq] at wp
        rcases wp with e | e
        · rw [e]
          exact Z.lR
        · rw [e]
          exact Z.lW
      have hll : (letS l[i].1).length ≤ 1 := by
        unfold letS
        split
        · rw [len_tl, tl_lR]; decide
        · rw [len_tl, tl_lW]; decide
      refine ⟨b, _, rfl, SqT.of (e2 _ _ hb), rfl, .str l[i].1, _, rfl, .int l[i].2, _, rfl, rfl, rfl, yesI ?_⟩
      refine ⟨.str l[i].1, rfl, dL, l[i].1, .str (letS l[i].1), rfl, rfl, hlet, .inl ⟨_, rfl, by have : 1 ≤ sizeLine := by decide
                                                                                                 omega, _, rfl, ?_, .int l[i].2, rfl, .inr ⟨_, rfl, ?_, _, rfl, ?_, ?_⟩⟩⟩
      · rw [emp_cat]
        exact sl_of (by omega)
      · exact box_log bp.1 bp.2
      · rw [emp_cat, let_wr bp.1, SX.S_len]
        have := wr_len okp.2
        exact sl_of (by omega)
      · rw [emp_cat, let_wr bp.1]
        exact hR trivial _ (Same.refl _)
    · have e1' : kept xs.length (fun _ => true) (fun i => V.str (SX.S (wrW (l.getD i (wR, 0))))) = ((l.map wrW).map SX.S).map V.str := by
        rw [kept_all, hl, List.map_map, List.map_map]
        have e0 : l.length = (l.map ((V.str ∘ SX.S) ∘ wrW)).length := by rw [List.length_map]
        rw [e0]
        refine map_range _ _ fun i x hx => ?_
        rw [List.getElem?_map] at hx
        cases hg : l[i]? with
        | none => rw [hg] at hx; cases hx
        | some p =>
          rw [hg] at hx
          rw [List.getD_eq_getElem?_getD, hg]
          exact Option.some.inj hx
      rw [e1'] at hL
      refine ⟨blank, D1, (l.map wrW).map SX.S, rfl, rfl, .inl (SqL.of hL), ?_, ?_⟩
      · rw [List.map_map, List.map_map, List.length_map, List.length_map, blank_S, SX.S_len]
        have := sum_le (((fun (x : Str) => x.length) ∘ SX.S) ∘ wrW) 10 l fun p hp => by
          show (SX.S (wrW p)).length ≤ 10
          rw [SX.S_len]
          exact wr_len (ok.1 p hp).2
        rw [show ([32] : List Nat).length = 1 from rfl]
        omega
      · have := q H2 (Same.trans e1 e2)
        rw [blank_S, SX.join_S]
        exact this
/-! ### are_figures -/
theorem dig_ascii : ∀ c : Fin 128, Unicode.isDigit c.val = isDig c.val := by decide +kernel
theorem isascii_tl (z : Str) : Txt.isascii z = (tl z).all (fun c => decide (c < 128)) := by
  unfold Txt.isascii tl
  rw [Array.all_toList]
theorem isdigit_tl (z : Str) : Txt.isdigit z = (decide (tl z ≠ []) && (tl z).all Unicode.isDigit) := by
  unfold Txt.isdigit
  rw [len_tl]
  show (decide ((tl z).length > 0) && z.cps.all Unicode.isDigit) = _
  congr 1
  · exact decide_eq_decide.mpr List.length_pos_iff
  · unfold tl
    rw [Array.all_toList]
theorem digs_eq : ∀ (L : List Nat), L.all (fun c => decide (c < 128)) = true → L.all Unicode.isDigit = L.all isDig
  | [], _ => rfl
  | c :: L, h => by
    rw [List.all_cons, Bool.and_eq_true, decide_eq_true_eq] at h
    rw [List.all_cons, List.all_cons, digs_eq L h.2]
    congr 1
    exact dig_ascii ⟨c, h.1⟩
theorem digs_asc : ∀ (L : List Nat), L.all (fun c => decide (c < 128)) = false → L.all isDig = false := fun L h => by
  cases hd : L.all isDig with
  | false => rfl
  | true =>
    have : L.all (fun c => decide (c < 128)) = true := List.all_eq_true.mpr fun c hc => by
      have := digs_of hd c hc
      exact decide_eq_true (by omega)
    rw [this] at h
    cases h
def spFig : Sp := fun vs H Q _ => ∃ z : Str, vs = [.str z] ∧ z.length ≤ 100000 ∧ Q (.bl (figB (tl z))) H
def zeroS : Str := "0"
theorem tl_zero : tl zeroS = [48] := by decide +kernel
theorem str_eq_tl (a b : Str) : decide (V.str a = V.str b) = decide (tl a = tl b) := decide_eq_decide.mpr ⟨fun z => congrArg tl (V.str.inj z), fun z => congrArg V.str (ext_tl z)⟩
theorem ok_figures {f : Addr} {fd : FuncData} {k : Nat} (F : Fun K "are_figures" "are_figures" sFigures f fd) (M : Mg mg) : FnOk P w K mg base CX0 (k + 1) f fd ["text"] spFig := by
  refine F.ok scFigures (fun vs H Q E h => ?_) (fun cdv A outer s H vs Q E hr h => ?_)
  · obtain ⟨z, rfl, _⟩ := h
    rfl
  · obtain ⟨z, rfl, hz, q⟩ := h
    obtain ⟨tf, mf⟩ := M.figures
    refine ⟨_, pss_cons (ps_if (PW.pt (pw_or (pt_cmpR op_gt (pe_callB call_len_str (by rfl) M.len PySem.boot_len (pa_cons (pv 0) pa_nil)) (pe_glob (v := .int 9) (by rfl) mf ⟨_, rfl⟩) (nomark _))
        (pw_or (pt_not (pt_val (pe_m0 PySem.F.slot_str_isascii PySem.F.type_str_isascii mt_isascii (pv 0)))) (pw_or1 (pt_not (pt_val (pe_m0 PySem.F.slot_str_isdigit PySem.F.type_str_isdigit mt_isdigit (pv 0)))))))) (pss_one (ps_ret pe_bl)) pss_nil)
      (pss_one (ps_ret (pe_or (pe_cmpR op_eq (pv 0) pe_str (nomark _)) (pe_one (pe_cmpR op_ne (pe_ix ix_str (pv 0) pe_int (fun _ _ => rfl)) pe_str (nomark _)))))), ?_⟩
    unfold figB at q
    have hlt := len_tl z
    refine ⟨.str z, rfl, z, rfl, sl_of hz, _, _, rfl, rfl, _, rfl, ?_⟩
    by_cases h9 : (tl z).length ≤ 9
    · rw [decide_eq_false (show ¬ (9 : Int) < (z.length : Int) by omega)]
      rw [decide_eq_true h9, Bool.and_true] at q
      refine iteF ⟨.str z, rfl, ⟨z, rfl⟩, z, rfl, rfl, trivial, _, rfl, ?_⟩
      rw [isascii_tl]
      cases ha : (tl z).all (fun c => decide (c < 128)) with
      | false =>
        rw [digs_asc _ ha, Bool.and_false, Bool.false_and] at q
        exact iteT (iteT q)
      | true =>
        refine iteF ⟨.str z, rfl, ⟨z, rfl⟩, z, rfl, rfl, trivial, _, rfl, ?_⟩
        rw [isdigit_tl, digs_eq _ ha]
        cases hd : (decide (tl z ≠ []) && (tl z).all isDig) with
        | false =>
          rw [hd, Bool.false_and] at q
          exact iteT q
        | true =>
          rw [hd, Bool.true_and] at q
          refine iteF ⟨.str z, rfl, rfl, _, rfl, ?_⟩
          have hS : (V.str (Str.ofString "0")) = V.str zeroS := rfl
          rw [hS, str_eq_tl, tl_zero]
          cases h0 : decide (tl z = [48]) with
          | true =>
            rw [h0, Bool.true_or] at q
            exact iteT q
          | false =>
            rw [h0, Bool.false_or] at q
            rw [Bool.and_eq_true, decide_eq_true_eq] at hd
            refine iteF ?_
            cases hc : tl z with
            | nil => exact absurd hc hd.1
            | cons c r =>
              refine ⟨.str z, rfl, z, 0, c, rfl, rfl, sl_of hz, ?_, rfl, ?_⟩
              · show atI (tl z) 0 = some c
                rw [hc]
                exact atI_nat (j := 0) (xs := c :: r) rfl
              · rw [hc] at q
                have e : (!decide (V.str ⟨#[c]⟩ = V.str zeroS)) = decide ((c :: r).head? ≠ some 48) := by
                  rw [str_eq_tl, tl_zero, ← decide_not]
                  refine decide_eq_decide.mpr (not_congr ⟨fun z => ?_, fun z => ?_⟩)
                  · have : [c] = [48] := z
                    rw [(List.cons.inj this).1]
                    rfl
                  · have : some c = some 48 := z
                    show [c] = [48]
                    rw [Option.some.inj this]
                rw [e]
                exact q
    · rw [decide_eq_true (show (9 : Int) < (z.length : Int) by omega)]
      rw [decide_eq_false h9, Bool.and_false, Bool.false_and, Bool.false_and] at q
      exact iteT (iteT q)
/-! ### read_step -/
def spRdStep : Sp := fun vs H Q _ => ∃ z : Str, vs = [.str z] ∧ z.length ≤ 100000 ∧ (pw (tl z) = none → Q .non H) ∧ (∀ p, pw (tl z) = some p → ∀ b, H b = none → Q (.ref b) (upd H b (.tup [.str p.1, .int p.2])))
theorem cut_head (z : Str) : tl (cutS z none (some 1)) = (tl z).take 1 := by
  rw [C8.cutS_slice, ← SX.S_tl z, SX.slice_to (by decide)]
  rfl
theorem cut_tail (z : Str) : tl (cutS z (some 1) none) = (tl z).drop 1 := by
  rw [C8.cutS_slice, ← SX.S_tl z, SX.slice_from (by decide)]
  rfl
theorem ok_rdstep {f f1 : Addr} {fd fd1 : FuncData} {k : Nat} (F : Fun K "read_step" "read_step" sRdStep f fd) (M : Mg mg) (Z : Dc K w mg dL dW) (G1 : FnOk P w K mg base CX0 k f1 fd1 ["text"] spFig) (g1 : mg "are_figures" = some (.ref f1)) (k1 : PySem.W.keepIn K (.ref f1) = true) (b1 : Binds K fd1 ["text"] []) :
    FnOk P w K mg base CX0 (k + 1) f fd ["word"] spRdStep := by
  refine F.ok scRdStep (fun vs H Q E h => ?_) (fun cdv A outer s H vs Q E hr h => ?_)
  · obtain ⟨z, rfl, _⟩ := h
    rfl
  · obtain ⟨z, rfl, hz, q0, q1⟩ := h
    obtain ⟨es, n, kd⟩ := Z.kd
    refine ⟨_, pss_cons (ps_if (PW.pt (pw_or (pt_cmpR (op_notIn_kd kd) (pe_slice sl_str (pv 0) po_none (po_some pe_int)) (pe_glob (v := .ref dW) (by rfl) Z.gW rfl) (by rfl))
        (pw_or1 (pt_not (pt_val (pe_call G1 hr (by rfl) g1 k1 b1 .nil pass0 (pa_cons (pe_slice sl_str (pv 0) (po_some pe_int) po_none) pa_nil))))))) (pss_one (ps_ret pe_non)) pss_nil)
      (pss_one (ps_ret (pe_tup (pa_cons (pe_ix (show IxR _ (rIxD K w) from ix_kdict) (pe_glob (v := .ref dW) (by rfl) Z.gW rfl) (pe_ix ix_str (pv 0) pe_int (fun _ _ => rfl)) (fun _ _ => rfl))
        (pa_cons (pe_callTy call_int_str (by rfl) M.int (by decide +kernel) (pa_cons (pe_slice sl_str (pv 0) (po_some pe_int) po_none) pa_nil)) pa_nil))))), ?_⟩
    obtain ⟨hd, ehd⟩ : ∃ x : Str, x = cutS z none (some 1) := ⟨_, rfl⟩
    obtain ⟨rs, ers⟩ : ∃ x : Str, x = cutS z (some 1) none := ⟨_, rfl⟩
    have thd : tl hd = (tl z).take 1 := by rw [ehd]; exact cut_head z
    have trs : tl rs = (tl z).drop 1 := by rw [ers]; exact cut_tail z
    have hrs : rs.length ≤ 100000 := by
      rw [len_tl, trs, List.length_drop, ← len_tl]
      omega
    have no : ∀ (c : Nat), c ≠ 114 → c ≠ 119 → (tl z).head? = some c ∨ tl z = [] → PySem.W.nsIn K dW hd = some none := fun c h1 h2 h3 => by
      refine Z.no hd (fun e => ?_) (fun e => ?_)
      · have e' : tl hd = [114] := by rw [e]; exact tl_lR
        rw [thd] at e'
        rcases h3 with h3 | h3
        · cases hz' : tl z with
          | nil => rw [hz'] at h3; cases h3
          | cons a r =>
            rw [hz'] at h3 e'
            have h4 : a = c := Option.some.inj h3
            have h5 : [a] = [114] := e'
            exact h1 (h4 ▸ (List.cons.inj h5).1)
        · rw [h3] at e'
          cases e'
      · have e' : tl hd = [119] := by rw [e]; exact tl_lW
        rw [thd] at e'
        rcases h3 with h3 | h3
        · cases hz' : tl z with
          | nil => rw [hz'] at h3; cases h3
          | cons a r =>
            rw [hz'] at h3 e'
            have h4 : a = c := Option.some.inj h3
            have h5 : [a] = [119] := e'
            exact h2 (h4 ▸ (List.cons.inj h5).1)
        · rw [h3] at e'
          cases e'
    refine ⟨.str z, rfl, 1, rfl, z, rfl, sl_of hz, ?_⟩
    rw [← ehd]
    cases hc : tl z with
    | nil =>
      refine ⟨hd, none, rfl, rfl, no 0 (by decide) (by decide) (.inr hc), _, rfl, iteT (iteT ?_)⟩
      exact q0 (by rw [hc]; rfl)
    | cons c ds =>
      rw [hc] at thd trs q0 q1
      have trs' : tl rs = ds := trs
      have thd' : tl hd = [c] := thd
      have two : (∃ wd le : Str, KDct K w dW le (.str wd) ∧ tl le = [c] ∧ (figB ds = false → pw (c :: ds) = none) ∧ (figB ds = true → pw (c :: ds) = some (wd, (digitsVal ds : Int)))) ∨ (c ≠ 114 ∧ c ≠ 119) := by
        by_cases h1 : c = 114
        · subst h1
          refine .inl ⟨wR, lR, Z.wR, tl_lR, fun h => if_neg (by rw [h]; exact Bool.false_ne_true), fun h => ?_⟩
          show (if figB ds = true then (if 114 = 114 then _ else _) else none) = _
          rw [if_pos h, if_pos rfl]
        · by_cases h2 : c = 119
          · subst h2
            refine .inl ⟨wW, lW, Z.wW, tl_lW, fun h => if_neg (by rw [h]; exact Bool.false_ne_true), fun h => ?_⟩
            show (if figB ds = true then (if 119 = 114 then _ else if 119 = 119 then _ else _) else none) = _
            rw [if_pos h, if_neg (by decide), if_pos rfl]
          · exact .inr ⟨h1, h2⟩
      rcases two with ⟨wd, le, kdc, tle, hf, ht⟩ | ⟨h1, h2⟩
      · have ele : hd = le := ext_tl (thd'.trans tle.symm)
        obtain ⟨es', n', u, _, _, hns, _⟩ := _root_.id kdc
        refine ⟨hd, some u, rfl, rfl, by rw [ele]; exact hns, _, rfl, ?_⟩
        refine iteF ⟨.str z, rfl, 1, rfl, z, rfl, sl_of hz, rs, (by rw [ers]; rfl), hrs, _, rfl, ?_⟩
        rw [trs']
        cases hfb : figB ds with
        | false => exact iteT (q0 (hf hfb))
        | true =>
          have fb := hfb
          unfold figB at fb
          simp only [Bool.and_eq_true, Bool.or_eq_true, decide_eq_true_eq] at fb
          obtain ⟨⟨⟨f1, f2⟩, f3⟩, f4⟩ := fb
          refine iteF ⟨.str z, rfl, z, 0, c, rfl, rfl, sl_of hz, ?_, dW, hd, .str wd, rfl, ?_, by rw [ele]; exact kdc, .str z, rfl, 1, rfl, z, rfl, sl_of hz, rs, (digitsVal ds : Int), by rw [ers], ?_, ?_, by show 2 ≤ sizeLine; decide, fun b nb => ?_⟩
          · show atI (tl z) 0 = some c
            rw [hc]
            exact atI_nat (j := 0) (xs := c :: ds) rfl
          · rw [show hd = ⟨#[c]⟩ from ext_tl thd']
          · have := SX.int_S (a := ds) f3 f1 (by omega)
            rw [show rs = SX.S ds from ext_tl trs']
            exact this
          · rw [len_tl, trs']
            omega
          · exact q1 _ (ht hfb) b nb
      · refine ⟨hd, none, rfl, rfl, no c h1 h2 (.inl (by rw [hc]; rfl)), _, rfl, iteT (iteT ?_)⟩
        refine q0 ?_
        show (if figB ds = true then (if c = 114 then _ else if c = 119 then _ else none) else none) = none
        rw [if_neg h1, if_neg h2]
        exact ite_self _
/-! ### read_dealing -/
def SV (H H' : Hp) (v : V) (w : List Nat) : Prop := (pw w = none ∧ v = .non) ∨ ∃ p b, pw w = some p ∧ v = .ref b ∧ H b = none ∧ H' b = some (.tup [.str p.1, .int p.2])
inductive SVs (H H' : Hp) : List V → List (List Nat) → Prop where
  | nil : SVs H H' [] []
  | cons {v : V} {w : List Nat} {vs : List V} {ws : List (List Nat)} (h : SV H H' v w) (t : SVs H H' vs ws) : SVs H H' (v :: vs) (w :: ws)
theorem SVs.len {H H' : Hp} {vs : List V} {ws : List (List Nat)} (h : SVs H H' vs ws) : vs.length = ws.length := by
  induction h with
  | nil => rfl
  | cons _ _ ih => rw [List.length_cons, List.length_cons, ih]
theorem SV.mono {H H1 H2 : Hp} {v : V} {w : List Nat} (e : ∀ b ys, H1 b = some (.tup ys) → H2 b = some (.tup ys)) : SV H H1 v w → SV H H2 v w
  | .inl h => .inl h
  | .inr ⟨p, b, h1, h2, h3, h4⟩ => .inr ⟨p, b, h1, h2, h3, e _ _ h4⟩
theorem SVs.mono {H H1 H2 : Hp} {vs : List V} {ws : List (List Nat)} (e : ∀ b ys, H1 b = some (.tup ys) → H2 b = some (.tup ys)) (h : SVs H H1 vs ws) : SVs H H2 vs ws := by
  induction h with
  | nil => exact .nil
  | cons h _ ih => exact .cons (h.mono e) ih
theorem SVs.snoc {H H' : Hp} {vs : List V} {ws : List (List Nat)} {v : V} {w : List Nat} (h : SVs H H' vs ws) (x : SV H H' v w) : SVs H H' (vs ++ [v]) (ws ++ [w]) := by
  induction h with
  | nil => exact .cons x .nil
  | cons h _ ih => exact .cons h ih
theorem SVs.td {H H' : Hp} {st : Addr} {vs : List V} {ws : List (List Nat)} (n : ∀ b ys, H b = none → H' b = some (.tup ys) → b ≠ st) (h : SVs H H' vs ws) : TDs st H' vs (ws.map pD) := by
  induction h with
  | nil => exact .nil
  | @cons v w vs ws h _ ih =>
    refine .cons ?_ ih
    show TD st H' v (pD w)
    unfold pD
    rcases h with ⟨h1, h2⟩ | ⟨p, b, h1, h2, h3, h4⟩
    · rw [h1, h2]
      exact .non
    · rw [h1, h2]
      exact .tup (n b _ h3 h4) h4 (.cons (.str _) (.cons (.int _) .nil))
def spRead (CT : Addr) : Sp := fun vs H Q E => ∃ st v d, vs = [v] ∧ TD st H v d ∧
  (∀ z, d = .str z → z.length ≤ 90000 ∧ (∀ l, okL l → rdD z = .tup (l.map stepD) → ∀ c H', (∀ st, H st ≠ none → TD st H' (.ref c) (.tup (l.map stepD))) → Same H H' → Q (.ref c) H') ∧ (isDealing (rdD z) = false → ∀ H', Same H H' → E (.ref CT) none H')) ∧
  ((∀ z, d ≠ .str z) → ∀ H', Same H H' → E (.ref CT) none H')
theorem ok_rddeal {f f1 f2 : Addr} {fd fd1 fd2 : FuncData} {k : Nat} (F : Fun K "read_dealing" "read_dealing" sRdDeal f fd) (M : Mg mg) (T : Er K mg "NoText" CA CT) (G1 : FnOk P w K mg base CX0 k f1 fd1 ["word"] spRdStep) (g1 : mg "read_step" = some (.ref f1)) (k1 : PySem.W.keepIn K (.ref f1) = true) (b1 : Binds K fd1 ["word"] [])
    (G2 : FnOk P w K mg base CX0 k f2 fd2 ["thing"] (spD isDealing)) (g2 : mg "is_dealing" = some (.ref f2)) (k2 : PySem.W.keepIn K (.ref f2) = true) (b2 : Binds K fd2 ["thing"] []) :
    FnOk P w K mg base (L2.CX P w) (k + 1) f fd ["text"] (spRead CT) := by
  refine F.okX scRdDeal (fun vs H Q E h => ?_) (fun cdv A outer s H vs Q E hr h => ?_)
  · obtain ⟨st, v, d, rfl, _⟩ := h
    rfl
  · obtain ⟨st, v, d, rfl, td, q1, q2⟩ := h
    refine ⟨_, pss_cons (ps_if (pt_not (pt_val (pe_callB call_isi (by rfl) M.isinstance (by decide +kernel) (pa_cons (pv 0) (pa_cons (pe_bltn (v := .ty "str") (by rfl) M.str (by decide +kernel) rfl) pa_nil)))))
        (pss_one (ps_raise rfl (takes_of rfl rfl rfl rfl) (pmk_own PySem.F.excBase_ValueError T.x T.g T.k (raises_own T.b T.t) (by rfl)))) pss_nil)
      (pss_cons (ps_set (i := 1) scRdDeal.nd rfl (.inl rfl) (pe_callTy call_tuple_of (by rfl) M.tuple (by decide +kernel) (pa_cons
          (pe_lc (own := [("word", 2)]) (g := gName 2) (by rfl) scRdDeal.nd (pi_list (pe_split (pv 0) pe_str)) (blkOk_by (own := [("word", 2)]) (N := ["text", "dealing", "word"]) (sc := defScope sRdDeal) (by decide +kernel))
            (fun _ _ _ _ _ => pg_name (i := 2) scRdDeal.nd rfl (Or.inl rfl)) (fun _ _ _ _ _ => pts_nil) (fun _ _ _ _ _ => pe_call G1 hr (by rfl) g1 k1 b1 .nil pass0 (pa_cons (pv 2) pa_nil))) pa_nil)))
      (pss_cons (ps_if (pt_not (pt_val (pe_call G2 hr (by rfl) g2 k2 b2 .nil pass0 (pa_cons (pv 1) pa_nil)))) (pss_one (ps_raise rfl (takes_of rfl rfl rfl rfl) (pmk_own PySem.F.excBase_ValueError T.x T.g T.k (raises_own T.b T.t) (by rfl)))) pss_nil)
      (pss_one (ps_ret (pv 1))))), ?_⟩
    refine ⟨v, rfl, v, .ty "str", _, _, _, rfl, .ty _, td.ty, kit_ty (kit_str d), _, rfl, ?_⟩
    cases td with
    | str z =>
      obtain ⟨hz, q3, q4⟩ := q1 z rfl
      have hsm := spl_small (tl z) []
      have hsp : (Txt.split z blank).map tl = splW z := split_W z
      have hlz := len_tl z
      refine iteF ⟨.str z, rfl, ⟨z, rfl⟩, z, blank, rfl, rfl, by decide +kernel, sl_of (by omega), fun p np => ⟨p, rfl, ⟨_, SqL.of upd_same⟩, fun D1 hD1 => ?_⟩⟩
      obtain ⟨ys, eys⟩ : ∃ ys, ys = Txt.split z blank := ⟨_, rfl⟩
      have hlen : ys.length = (splW z).length := by rw [eys, ← hsp, List.length_map]
      have hlw : (splW z).length ≤ z.length + 1 := by rw [hlz]; exact hsm.1
      have sp := same_new (o := .lst (ys.map V.str)) np
      rw [← eys] at hD1 ⊢
      obtain ⟨H0, eH0⟩ : ∃ X : Hp, X = upd H p (.lst (ys.map V.str)) := ⟨_, rfl⟩
      rw [← eH0] at hD1 sp ⊢
      have hp0 : H0 p = some (.lst (ys.map V.str)) := by rw [eH0]; exact upd_same
      refine lc_it (walk_list (xs := ys.map V.str)) (fun i H' => ∃ vs, H' D1 = some (.lst vs) ∧ SVs H H' vs ((splW z).take i) ∧ Same H0 H') ⟨[], upd_same, by rw [List.take_zero]; exact .nil, same_new hD1⟩ (fun i H' _ hP => ?_) (fun i x H2 H3 hi hP y => ?_) (fun H4 hP => ?_)
      · obtain ⟨_, _, _, e⟩ := hP
        exact SqL.of (e _ _ hp0)
      · obtain ⟨vs, hvs, tvs, e2⟩ := hP
        obtain ⟨rfl, hx⟩ := y
        rw [List.length_map] at hi
        rw [List.getElem?_map, List.getElem?_eq_getElem hi] at hx
        have ex : V.str ys[i] = x := Option.some.inj hx
        subst ex
        have hw : (splW z)[i]? = some (tl ys[i]) := by
          rw [← hsp, ← eys, List.getElem?_map, List.getElem?_eq_getElem hi]
          rfl
        have hyl : ys[i].length ≤ 100000 := by
          have := hsm.2 _ (List.mem_of_getElem? hw)
          rw [len_tl]
          have h0 : ([] : List Nat).length = 0 := rfl
          omega
        have hvl : vs.length < 100000 := by rw [tvs.len, List.length_take]; omega
        have e5 : (splW z).take (i + 1) = (splW z).take i ++ [tl ys[i]] := by
          rw [List.take_add_one, hw]
          rfl
        refine ⟨rfl, yesI ⟨.str ys[i], rfl, ys[i], rfl, hyl, fun hn => ?_, fun pr hpr b nb => ?_⟩⟩
        · refine ⟨vs, hvs, sl_lt hvl, vs ++ [.non], upd_same, ?_, Same.mut e2 hD1⟩
          rw [e5]
          exact (tvs.mono fun b ys hb => by
            rw [upd_ne (ne_of hb hvs (fun z => nomatch z))]
            exact hb).snoc (.inl ⟨hn, rfl⟩)
        · have sb := same_new (o := .tup [.str pr.1, .int pr.2]) nb
          refine ⟨vs, sb _ _ hvs, sl_lt hvl, vs ++ [.ref b], upd_same, ?_, Same.mut (Same.trans e2 sb) hD1⟩
          rw [e5]
          have keep : ∀ c zs, H3 c = some (.tup zs) → upd (upd H3 b (.tup [.str pr.1, .int pr.2])) D1 (.lst (vs ++ [.ref b])) c = some (.tup zs) := fun c zs hc => by
            rw [upd_ne (ne_of (sb _ _ hc) (sb _ _ hvs) (fun z => nomatch z))]
            exact sb _ _ hc
          refine (tvs.mono keep).snoc (.inr ⟨pr, b, hpr, rfl, Same.free (Same.trans sp e2) nb, ?_⟩)
          rw [upd_ne (ne_of upd_same (sb _ _ hvs) (fun z => nomatch z))]
          exact upd_same
      · obtain ⟨vs, hvs, tvs, e4⟩ := hP
        rw [List.length_map, hlen, List.take_of_length_le (Nat.le_refl _)] at tvs
        refine ⟨D1, vs, rfl, .inl ⟨SqL.of hvs, fun c nc => ?_⟩⟩
        have sc := same_new (o := .tup vs) nc
        have s4 : Same H (upd H4 c (.tup vs)) := Same.trans sp (Same.trans e4 sc)
        have tv5 : SVs H (upd H4 c (.tup vs)) vs (splW z) := tvs.mono fun b ys hb => sc _ _ hb
        have nD : c ≠ D1 := ne_of upd_same (sc _ _ hvs) (fun z => nomatch z)
        have td5 : TD D1 (upd H4 c (.tup vs)) (.ref c) (rdD z) := .tup nD upd_same (tv5.td fun b ys _ hb => ne_of hb (sc _ _ hvs) (fun z => nomatch z))
        refine ⟨.ref c, rfl, D1, .ref c, rdD z, rfl, td5, fun H5 e5 => ⟨_, rfl, ?_⟩⟩
        cases hdl : isDealing (rdD z) with
        | false => exact iteT (q4 hdl H5 (Same.trans s4 e5))
        | true =>
          obtain ⟨l, el, okl⟩ := isDealing_true hdl
          refine iteF ⟨.ref c, rfl, q3 l okl el c H5 (fun st' hst => ?_) (Same.trans s4 e5)⟩
          rw [← el]
          have nc' : H c = none := Same.free (Same.trans sp e4) nc
          refine TD.mono (.of e5) (.tup (fun e => hst (by rw [← e]; exact nc')) upd_same (tv5.td fun b ys hb _ e => hst (by rw [← e]; exact hb)))
    | _ => exact iteT (q2 (fun z => by intro e; cases e) H (Same.refl H))
end
end As

namespace As
open PySem PySem.Spec PyProof.Rows L2 TL NumText
abbrev sNumber : Stmt := topS 29
abbrev sLread : Stmt := topS 30
abbrev sLtext : Stmt := topS 31
abbrev nNumber : List Str := ["_law_word_here", "_law_sign"]
abbrev nLread : List Str := ["_law_text_here", "_law_steps", "_law_word_here", "_law_step"]
abbrev nLtext : List Str := ["_law_dealing_here", "_law_words", "_law_word_here", "_law_box_here"]
theorem scNumber : FnScope nNumber ["_law_word_here"] (defScope sNumber) := ⟨rfl, rfl, rfl, by decide +kernel, rfl, by decide +kernel, by decide +kernel⟩
theorem scLread : FnScope nLread ["_law_text_here"] (defScope sLread) := ⟨rfl, rfl, rfl, by decide +kernel, rfl, by decide +kernel, by decide +kernel⟩
theorem scLtext : FnScope nLtext ["_law_dealing_here"] (defScope sLtext) := ⟨rfl, rfl, rfl, by decide +kernel, rfl, by decide +kernel, by decide +kernel⟩
/-! ### a list beside the empty one -/
def rNeNil (K : PySem.W.Frag) : R2 := fun x y H Q => ∃ a b xs, x = .ref a ∧ y = .ref b ∧ SqL K H a xs ∧ SqL K H b [] ∧ Q (.bl (!xs.isEmpty)) H
theorem op_neNil {X : Cx} (hu : X.A.units < cLine) : OpR X (compareOp .NotEq) (rNeNil X.K) := by
  intro pins s σ H x y v u Q I rx ry h
  obtain ⟨a, b, xs, rfl, rfl, ha, hb, q⟩ := h
  cases rx
  cases ry
  obtain ⟨its, rv, p1, _⟩ := I.list ha
  obtain ⟨its2, rv2, p2, _⟩ := I.list hb
  cases rv2
  cases xs with
  | nil =>
    cases rv
    exact SeqAt.RcNeAt.lists p1.isList p2.isList rfl hu (e := fun _ => true) (fun j h1 _ => absurd h1 (Nat.not_lt_zero _)) _ _ _ _ ⟨.bl false, H, I, rfl, q⟩
  | cons x xs =>
    cases rv with
    | cons r1 r2 => exact SeqAt.RcNeAt.lists_lengths p1.isList p2.isList (by simp) hu _ _ _ _ ⟨.bl true, H, I, rfl, q⟩
section
variable {P : Program} {w : World} {K : PySem.W.Frag} {mg : Str → Option Value} {base : Heap} {CA CD CS CT : Addr} {dL dW : Addr}
/-! ### number -/
def numV (ds : List Nat) : Int := if figB ds = true ∧ digitsVal ds ≤ 100000000 then (digitsVal ds : Int) else -1
def spNum : Sp := fun vs H Q _ => ∃ z : Str, vs = [.str z] ∧ z.length ≤ 100000 ∧ ∀ H', Same H H' → Q (.int (numV (tl z))) H'
def figsS : Str := "0123456789"
theorem figs_S : figsS = SX.S [48, 49, 50, 51, 52, 53, 54, 55, 56, 57] := ext_tl (by decide +kernel)
theorem notin_figs (c : Nat) : (!(!(Builtin.Str.occurrences figsS ⟨#[c]⟩ 0 figsS.length 1).isEmpty)) = !isDig c := by
  congr 1
  rw [figs_S]
  have := SX.in_one [48, 49, 50, 51, 52, 53, 54, 55, 56, 57] c
  refine this.trans ?_
  unfold isDig
  rw [← Bool.decide_and]
  refine decide_eq_decide.mpr ?_
  simp only [List.mem_cons, List.not_mem_nil, or_false]
  omega
theorem ok_number {f : Addr} {fd : FuncData} {k : Nat} (F : Fun K "_law_number" "_law_number" sNumber f fd) (M : Mg mg) : FnOk P w K mg base CX0 (k + 1) f fd ["_law_word_here"] spNum := by
  refine F.ok scNumber (fun vs H Q E h => ?_) (fun cdv A outer s H vs Q E hr h => ?_)
  · obtain ⟨z, rfl, _⟩ := h
    rfl
  · obtain ⟨z, rfl, hz, q⟩ := h
    refine ⟨_, pss_cons (ps_if (PW.pt (pw_or (pt_cmpR op_eq (pv 0) pe_str (nomark _)) (pw_or (pt_cmpR op_gt (pe_callB call_len_str (by rfl) M.len PySem.boot_len (pa_cons (pv 0) pa_nil)) pe_int (nomark _))
        (pw_or1 (pt_cmpR (show OpR _ _ (rNeNil K) from op_neNil (Nat.lt_of_le_of_lt (Nat.le_add_right _ 65) (hu65 hr))) (pe_lc (own := [("_law_sign", 1)]) (g := gName 1) (tt := tTest (tOp _ (tVar 1) (tC (.str figsS)))) (by rfl) scNumber.nd (pi_str (pv 0)) (blkOk_by (own := [("_law_sign", 1)]) (N := nNumber) (sc := defScope sNumber) (by decide +kernel))
          (fun _ _ _ _ _ => pg_name (i := 1) scNumber.nd rfl (Or.inl rfl)) (fun _ _ _ _ _ => pts_one (pt_cmpR op_notin_str (pv 1) pe_str (by rfl))) (fun _ _ _ _ _ => pv 1)) (pe_lst pa_nil) (nomark _)))))) (pss_one (ps_ret (pe_un un_neg pe_int))) pss_nil)
      (pss_cons (ps_if (PW.pt (pw_or (PW.pt (pw_and (pt_cmpR op_gt (pe_callB call_len_str (by rfl) M.len PySem.boot_len (pa_cons (pv 0) pa_nil)) pe_int (nomark _)) (pw_and1 (pt_cmpR op_eq (pe_ix ix_str (pv 0) pe_int (fun _ _ => rfl)) pe_str (nomark _)))))
        (pw_or1 (pt_cmpR op_gt (pe_callTy call_int_str (by rfl) M.int (by decide +kernel) (pa_cons (pv 0) pa_nil)) (pe_op op_pow pe_int pe_int) (nomark _))))) (pss_one (ps_ret (pe_un un_neg pe_int))) pss_nil)
      (pss_one (ps_ret (pe_callTy call_int_str (by rfl) M.int (by decide +kernel) (pa_cons (pv 0) pa_nil))))), ?_⟩
    have hlt := len_tl z
    have bad : figB (tl z) = false → ∀ H', Same H H' → Q (.int (-1)) H' := fun h H' e => by
      have := q H' e
      unfold numV at this
      rw [if_neg (by rw [h]; simp)] at this
      exact this
    have hS : (V.str (Str.ofString "")) = V.str Str.empty := rfl
    have hS0 : (V.str (Str.ofString "0")) = V.str zeroS := rfl
    refine ⟨.str z, rfl, rfl, _, rfl, ?_⟩
    rw [hS, str_eq_tl, show tl Str.empty = [] from rfl]
    by_cases h1 : tl z = []
    · rw [decide_eq_true h1]
      refine iteT (iteT ⟨1, rfl, bad ?_ H (Same.refl H)⟩)
      unfold figB
      rw [decide_eq_false (not_not_intro h1)]
      rfl
    rw [decide_eq_false h1]
    refine iteF ⟨.str z, rfl, z, rfl, sl_of hz, _, 9, rfl, rfl, _, rfl, ?_⟩
    by_cases h9 : (tl z).length ≤ 9
    rotate_left
    · rw [decide_eq_true (show (9 : Int) < (z.length : Int) by omega)]
      refine iteT (iteT ⟨1, rfl, bad ?_ H (Same.refl H)⟩)
      unfold figB
      rw [decide_eq_false h9, Bool.and_false]
      rfl
    rw [decide_eq_false (show ¬ (9 : Int) < (z.length : Int) by omega)]
    have hsz : z.cps.size = (tl z).length := by rw [← hlt]; rfl
    refine iteF ⟨.str z, rfl, z, rfl, fun D1 hD1 => ?_⟩
    refine lc_kept (walk_str (z := z)) (fun i => !isDig ((tl z).getD i 0)) (fun i => .str ⟨#[(tl z).getD i 0]⟩) hD1 (by omega) (fun _ _ => trivial) (fun i x H2 H3 N R hi e2 y hN hR => ?_) (fun H2 e2 hL => ?_)
    · obtain ⟨rfl, c, hc, rfl⟩ := y
      have hg : (tl z).getD i 0 = c := by
        rw [List.getD_eq_getElem?_getD]
        have : (tl z)[i]? = some c := by
          show z.cps.toList[i]? = some c
          rw [Array.getElem?_toList]
          exact hc
        rw [this]
        rfl
      simp only [hg] at hN hR
      refine ⟨rfl, .str ⟨#[c]⟩, rfl, ⟨#[c]⟩, figsS, rfl, rfl, _, rfl, ?_⟩
      rw [notin_figs]
      exact ite2 (fun e => ⟨_, rfl, hR e _ (Same.refl _)⟩) (fun e => hN (Bool.eq_false_iff.mpr e) _ (Same.refl _))
    · refine ⟨Nat.zero_le _, fun p np => ?_⟩
      have sp := same_new (o := .lst []) np
      have e3 := Same.trans e2 sp
      refine ⟨D1, p, _, rfl, rfl, SqL.of (sp _ _ hL), SqL.of upd_same, _, rfl, ?_⟩
      have hem : (kept z.cps.size (fun i => !isDig ((tl z).getD i 0)) (fun i => V.str ⟨#[(tl z).getD i 0]⟩)).isEmpty = (tl z).all isDig := by
        unfold kept
        rw [List.isEmpty_map, hsz]
        cases ha : (tl z).all isDig with
        | true =>
          rw [List.isEmpty_iff]
          refine List.filter_eq_nil_iff.mpr fun i hi => ?_
          have hil := List.mem_range.mp hi
          rw [List.getD_eq_getElem?_getD, List.getElem?_eq_getElem hil]
          have := List.all_eq_true.mp ha _ (List.getElem_mem hil)
          show ¬ (!isDig (tl z)[i]) = true
          rw [this]
          decide
        | false =>
          obtain ⟨c, hc, hd⟩ := List.all_eq_false.mp ha
          obtain ⟨i, hil, rfl⟩ := List.getElem_of_mem hc
          refine Bool.eq_false_iff.mpr fun h => ?_
          rw [List.isEmpty_iff] at h
          have := List.filter_eq_nil_iff.mp h i (List.mem_range.mpr hil)
          rw [List.getD_eq_getElem?_getD, List.getElem?_eq_getElem hil] at this
          refine this ?_
          show (!isDig (tl z)[i]) = true
          rw [Bool.eq_false_iff.mpr hd]
          rfl
      rw [hem]
      cases ha : (tl z).all isDig with
      | false =>
        refine iteT ⟨1, rfl, bad ?_ _ e3⟩
        unfold figB
        rw [ha, Bool.and_false]
        rfl
      | true =>
        refine iteF ?_
        have hint : intText? z = some ((digitsVal (tl z) : Nat) : Int) := by
          have := SX.int_S (a := tl z) ha h1 (by omega)
          rw [← SX.S_tl z]
          exact this
        have hfg : figB (tl z) = (decide (tl z = [48]) || decide ((tl z).head? ≠ some 48)) := by
          unfold figB
          rw [decide_eq_true h1, decide_eq_true h9, ha]
          rfl
        have good : figB (tl z) = true → ∀ H', Same H H' → ((100000000 : Int) < digitsVal (tl z) → Q (.int (-1)) H') ∧ (¬ (100000000 : Int) < digitsVal (tl z) → Q (.int (digitsVal (tl z))) H') := fun h H' e => by
          have := q H' e
          unfold numV at this
          refine ⟨fun hg => ?_, fun hg => ?_⟩
          · rw [if_neg (by intro hh; have := hh.2; omega)] at this
            exact this
          · rw [if_pos ⟨h, by omega⟩] at this
            exact this
        cases hc : tl z with
        | nil => exact absurd hc h1
        | cons c r =>
          have hat : atI z.cps.toList 0 = some c := by
            show atI (tl z) 0 = some c
            rw [hc]
            exact atI_nat (j := 0) (xs := c :: r) rfl
          have hdc : decide (V.str ⟨#[c]⟩ = V.str zeroS) = decide (c = 48) := by
            rw [str_eq_tl, tl_zero]
            refine decide_eq_decide.mpr ⟨fun z => ?_, fun z => ?_⟩
            · have : [c] = [48] := z
              exact (List.cons.inj this).1
            · show [c] = [48]
              rw [z]
          refine ⟨.str z, rfl, z, rfl, sl_of hz, _, 1, rfl, rfl, _, rfl, ?_⟩
          by_cases hl1 : 1 < (tl z).length
          · rw [decide_eq_true (show (1 : Int) < (z.length : Int) by omega)]
            refine iteT ⟨.str z, rfl, z, 0, c, rfl, rfl, sl_of hz, hat, rfl, _, rfl, ?_⟩
            rw [hS0, hdc]
            have hn48 : ¬ tl z = [48] := fun e => by
              rw [e] at hl1
              exact absurd hl1 (by decide)
            rw [decide_eq_false hn48, Bool.false_or, hc] at hfg
            by_cases h48 : c = 48
            · rw [decide_eq_true h48]
              refine iteT (iteT ⟨1, rfl, bad ?_ _ e3⟩)
              rw [hc, hfg, h48]
              rfl
            · rw [decide_eq_false h48]
              have hfb : figB (tl z) = true := by
                rw [hc, hfg]
                exact decide_eq_true fun e => h48 (Option.some.inj e)
              refine iteF ⟨.str z, rfl, z, _, rfl, hint, by omega, 10, 8, rfl, rfl, ⟨by decide, by decide, by decide⟩, _, _, rfl, rfl, _, rfl, ?_⟩
              by_cases hg : (100000000 : Int) < (digitsVal (tl z) : Int)
              · rw [show decide ((10 : Int) ^ (8 : Int).toNat < ((digitsVal (tl z) : Nat) : Int)) = true from decide_eq_true hg]
                exact iteT ⟨1, rfl, (good hfb _ e3).1 hg⟩
              · rw [show decide ((10 : Int) ^ (8 : Int).toNat < ((digitsVal (tl z) : Nat) : Int)) = false from decide_eq_false hg]
                exact iteF ⟨.str z, rfl, z, _, rfl, hint, by omega, (good hfb _ e3).2 hg⟩
          · rw [decide_eq_false (show ¬ (1 : Int) < (z.length : Int) by omega)]
            have hr0 : r = [] := by
              rw [hc, List.length_cons] at hl1
              exact List.eq_nil_of_length_eq_zero (by omega)
            have hfb : figB (tl z) = true := by
              rw [hfg, hc, hr0]
              by_cases h48 : c = 48
              · rw [h48]
                rfl
              · rw [show decide (([c] : List Nat).head? ≠ some 48) = true from decide_eq_true fun e => h48 (Option.some.inj e), Bool.or_true]
            refine iteF (iteF ⟨.str z, rfl, z, _, rfl, hint, by omega, 10, 8, rfl, rfl, ⟨by decide, by decide, by decide⟩, _, _, rfl, rfl, _, rfl, ?_⟩)
            by_cases hg : (100000000 : Int) < (digitsVal (tl z) : Int)
            · rw [show decide ((10 : Int) ^ (8 : Int).toNat < ((digitsVal (tl z) : Nat) : Int)) = true from decide_eq_true hg]
              exact iteT ⟨1, rfl, (good hfb _ e3).1 hg⟩
            · rw [show decide ((10 : Int) ^ (8 : Int).toNat < ((digitsVal (tl z) : Nat) : Int)) = false from decide_eq_false hg]
              exact iteF ⟨.str z, rfl, z, _, rfl, hint, by omega, (good hfb _ e3).2 hg⟩
/-! ### text -/
def spLtext : Sp := fun vs H Q _ => ∃ st v l, vs = [v] ∧ TD st H v (.tup (l.map stepD)) ∧ okL l ∧ ∀ H', Same H H' → Q (.str (txt l)) H'
theorem join_txt {l : List Pr} : Txt.join blank ((l.map wrW).map SX.S) = txt l := by
  rw [blank_S, SX.join_S]
  rfl
theorem join_len {l : List Pr} (ok : okL l) : (((l.map wrW).map SX.S).map (·.length)).sum + ((l.map wrW).map SX.S).length * blank.length ≤ 16777216 := by
  rw [List.map_map, List.map_map, List.length_map, List.length_map, blank_S, SX.S_len]
  have := sum_le (((fun (x : Str) => x.length) ∘ SX.S) ∘ wrW) 10 l fun p hp => by
    show (SX.S (wrW p)).length ≤ 10
    rw [SX.S_len]
    exact wr_len (ok.1 p hp).2
  rw [show ([32] : List Nat).length = 1 from rfl]
  have h8 := ok.2.2.1
  omega
theorem pick_let {z : Str} (h : wordB z = true) : atI [V.str lR, V.str lW] (if decide (V.str z = V.str wW) then 1 else 0) = some (.str (letS z)) := by
  unfold wordB at h
  rw [Bool.or_eq_true, decide_eq_true_eq, decide_eq_true_eq] at h
  rcases h with e | e
  · subst e
    rw [show decide (V.str wR = V.str wW) = false from decide_eq_false fun z => wWR (V.str.inj z).symm]
    unfold letS
    rw [if_pos rfl]
    rfl
  · subst e
    rw [decide_eq_true (show V.str wW = V.str wW from rfl)]
    unfold letS
    rw [if_neg wWR]
    rfl
theorem ok_ltext {f : Addr} {fd : FuncData} {k : Nat} (F : Fun K "_law_text" "_law_text" sLtext f fd) (M : Mg mg) : FnOk P w K mg base CX0 (k + 1) f fd ["_law_dealing_here"] spLtext := by
  refine F.ok scLtext (fun vs H Q E h => ?_) (fun cdv A outer s H vs Q E hr h => ?_)
  · obtain ⟨st, v, l, rfl, _⟩ := h
    rfl
  · obtain ⟨st, v, l, rfl, td, ok, q⟩ := h
    refine ⟨_, pss_cons (ps_set (i := 1) scLtext.nd rfl (.inl rfl) (pe_lst pa_nil))
      (pss_cons (ps_for PassesOwn.never rfl (pi_tup (pv 0)) (pg_tup rfl (pgs_cons (pg_name (i := 2) scLtext.nd rfl (.inl rfl)) (pgs_cons (pg_name (i := 3) scLtext.nd rfl (.inl rfl)) pgs_nil)))
        (pss_one (ps_expr (pe_bm PySem.F.plainAttrs_list PySem.F.slot_list_append PySem.F.type_list_append mt_append (pv 1) (pa_cons (pe_op op_add_str
          (pe_ix ix_list (pe_lst (pa_cons pe_str (pa_cons pe_str pa_nil))) (pe_callTy call_int1 (by rfl) M.int (by decide +kernel) (pa_cons (pe_cmpR op_eq (pv 2) pe_str (nomark _)) pa_nil)) (fun _ _ => rfl))
          (pe_callTy call_str_int (by rfl) M.str (by decide +kernel) (pa_cons (pv 3) pa_nil))) pa_nil)))))
      (pss_one (ps_ret (pe_join pe_str (pv 1))))), ?_⟩
    cases td with
    | @tup a xs _ na ha ta =>
    have hl : xs.length = l.length := by rw [ta.length, List.length_map]
    have h8 : l.length ≤ 8 := ok.2.2.1
    refine ⟨Nat.zero_le _, fun o no => ?_⟩
    refine ⟨.ref a, rfl, a, rfl, ⟨_, SqT.of (same_new no _ _ ha)⟩, for_tup (xs := xs) (fun i σ H' => ∃ y2 y3, σ = [some (.ref a), some (.ref o), y2, y3] ∧ Same H H' ∧ H' o = some (.lst ((((l.take i).map wrW).map SX.S).map V.str))) ⟨none, none, rfl, same_new no, by rw [List.take_zero]; exact upd_same⟩ (fun i σ H' _ hP => ?_) (fun i x σ H3 hx hP => ?_) (fun σ H3 hP => ?_)⟩
    · obtain ⟨_, _, _, e, _⟩ := hP
      exact SqT.of (e _ _ ha)
    · obtain ⟨y2, y3, rfl, e3, ho3⟩ := hP
      obtain ⟨hil, b, rfl, nb, hb⟩ := pr_at ta hx
      have okp := ok.1 _ (List.getElem_mem hil)
      have bp := okp.2
      unfold boxB at bp
      rw [Bool.and_eq_true, decide_eq_true_eq, decide_eq_true_eq] at bp
      refine ⟨b, _, rfl, SqT.of (e3 _ _ hb), rfl, .str l[i].1, _, rfl, .int l[i].2, _, rfl, rfl, ?_⟩
      refine ⟨.ref o, rfl, .inl ⟨rfl, _, SqL.of ho3⟩, by show 2 ≤ sizeLine; decide, fun p np => ?_⟩
      have sp := same_new (o := .lst [.str lR, .str lW]) np
      refine ⟨.str l[i].1, rfl, rfl, .inr ⟨_, rfl, p, [.str lR, .str lW], _, .str (letS l[i].1), rfl, rfl, SqL.of upd_same, pick_let okp.1, .int l[i].2, rfl, l[i].2, rfl, box_log bp.1 bp.2, _, _, rfl, rfl, ?_, ?_⟩⟩
      · rw [len_tl, len_tl, ← List.length_append, ← tl_append, ← len_tl, let_wr bp.1, SX.S_len]
        have := wr_len okp.2
        exact sl_of (by omega)
      · refine ⟨o, _, _, rfl, rfl, sp _ _ ho3, sl_lt (by rw [List.length_map, List.length_map, List.length_map, List.length_take]; omega), ?_⟩
        refine ⟨_, _, rfl, Same.mut (Same.trans e3 sp) no, ?_⟩
        rw [upd_same, let_wr bp.1, List.take_add_one, List.getElem?_eq_getElem hil]
        simp only [List.map_append, Option.toList_some, List.map_cons, List.map_nil]
    · obtain ⟨y2, y3, rfl, e3, ho3⟩ := hP
      rw [hl, List.take_of_length_le (Nat.le_refl _)] at ho3
      refine ⟨⟨_, rfl⟩, .ref o, rfl, blank, o, _, rfl, rfl, .inl (SqL.of ho3), join_len ok, ?_⟩
      rw [join_txt]
      exact q H3 e3
end
end As

namespace As
open PySem PySem.Spec PyProof.Rows L2 TL NumText
/-! ### steps laid new -/
inductive PVs (H H' : Hp) : List V → List Pr → Prop where
  | nil : PVs H H' [] []
  | cons {b : Addr} {p : Pr} {vs : List V} {l : List Pr} (n : H b = none) (h : H' b = some (.tup [.str p.1, .int p.2])) (t : PVs H H' vs l) : PVs H H' (.ref b :: vs) (p :: l)
theorem PVs.len {H H' : Hp} {vs : List V} {l : List Pr} (h : PVs H H' vs l) : vs.length = l.length := by
  induction h with
  | nil => rfl
  | cons _ _ _ ih => rw [List.length_cons, List.length_cons, ih]
theorem PVs.mono {H H1 H2 : Hp} {vs : List V} {l : List Pr} (e : ∀ b ys, H1 b = some (.tup ys) → H2 b = some (.tup ys)) (h : PVs H H1 vs l) : PVs H H2 vs l := by
  induction h with
  | nil => exact .nil
  | cons n h _ ih => exact .cons n (e _ _ h) ih
theorem PVs.snoc {H H' : Hp} {vs : List V} {l : List Pr} {b : Addr} {p : Pr} (h : PVs H H' vs l) (n : H b = none) (x : H' b = some (.tup [.str p.1, .int p.2])) : PVs H H' (vs ++ [.ref b]) (l ++ [p]) := by
  induction h with
  | nil => exact .cons n x .nil
  | cons n h _ ih => exact .cons n h ih
theorem PVs.td {H H' : Hp} {st : Addr} {vs : List V} {l : List Pr} (n : ∀ b ys, H b = none → H' b = some (.tup ys) → b ≠ st) (h : PVs H H' vs l) : TDs st H' vs (l.map stepD) := by
  induction h with
  | nil => exact .nil
  | cons hn h _ ih => exact .cons (.tup (n _ _ hn h) h (.cons (.str _) (.cons (.int _) .nil))) ih
/-! ### a word as the law reads it -/
theorem lw_other {c : Nat} {ds : List Nat} (h1 : c ≠ 114) (h2 : c ≠ 119) : lw (c :: ds) = none := by
  unfold lw
  have : pw (c :: ds) = none := by
    show (if figB ds = true then (if c = 114 then _ else if c = 119 then _ else none) else none) = none
    rw [if_neg h1, if_neg h2]
    exact ite_self _
  rw [this]
def wdOf (c : Nat) : Str := if c = 119 then wW else wR
theorem pw_two {c : Nat} {ds : List Nat} (h : c = 114 ∨ c = 119) : pw (c :: ds) = if figB ds = true then some (wdOf c, (digitsVal ds : Int)) else none := by
  rcases h with rfl | rfl <;> rfl
theorem lw_neg {c : Nat} {ds : List Nat} (h : c = 114 ∨ c = 119) (hn : numV ds < 0) : lw (c :: ds) = none := by
  unfold lw
  rw [pw_two h]
  unfold numV at hn
  by_cases hf : figB ds = true
  · rw [if_pos hf]
    by_cases hd : digitsVal ds ≤ 100000000
    · rw [if_pos ⟨hf, hd⟩] at hn
      omega
    · show (if ((digitsVal ds : Nat) : Int) ≤ 100000000 then _ else none) = none
      rw [if_neg (by omega)]
  · rw [if_neg hf]
theorem lw_pos {c : Nat} {ds : List Nat} (h : c = 114 ∨ c = 119) (hn : ¬ numV ds < 0) : lw (c :: ds) = some (wdOf c, numV ds) := by
  unfold lw
  rw [pw_two h]
  unfold numV at hn ⊢
  by_cases hf : figB ds = true ∧ digitsVal ds ≤ 100000000
  · rw [if_pos hf.1, if_pos hf]
    show (if ((digitsVal ds : Nat) : Int) ≤ 100000000 then some (wdOf c, ((digitsVal ds : Nat) : Int)) else none) = _
    rw [if_pos (by have := hf.2; omega)]
  · rw [if_neg hf] at hn
    exact absurd (show (-1 : Int) < 0 by decide) hn
theorem wd_word (c : Nat) : wordB (wdOf c) = true := by
  unfold wdOf
  split
  · decide +kernel
  · decide +kernel
theorem lr_bad {w : List Nat} {ws : List (List Nat)} {acc : List Pr} (h : lw w = none) : lr (w :: ws) acc = none := by
  show (match lw w with | none => none | some p => if mayL p acc = true then lr ws (acc ++ [p]) else none) = none
  rw [h]
theorem lr_not {w : List Nat} {ws : List (List Nat)} {acc : List Pr} {p : Pr} (h : lw w = some p) (hm : mayL p acc = false) : lr (w :: ws) acc = none := by
  show (match lw w with | none => none | some p => if mayL p acc = true then lr ws (acc ++ [p]) else none) = none
  rw [h]
  show (if mayL p acc = true then _ else none) = none
  rw [hm, if_neg Bool.false_ne_true]
theorem lr_may {w : List Nat} {ws : List (List Nat)} {acc : List Pr} {p : Pr} (h : lw w = some p) (hm : mayL p acc = true) : lr (w :: ws) acc = lr ws (acc ++ [p]) := by
  show (match lw w with | none => none | some p => if mayL p acc = true then lr ws (acc ++ [p]) else none) = _
  rw [h]
  show (if mayL p acc = true then _ else none) = _
  rw [if_pos hm]
theorem decStr (a b : Str) : decide (V.str a = V.str b) = decide (a = b) := decide_eq_decide.mpr ⟨fun z => V.str.inj z, fun z => congrArg V.str z⟩
theorem pick_wd {c : Nat} (h : c = 114 ∨ c = 119) : atI [V.str wR, V.str wW] (if decide (V.str ⟨#[c]⟩ = V.str lW) then 1 else 0) = some (.str (wdOf c)) := by
  rcases h with rfl | rfl
  · rw [show decide (V.str ⟨#[114]⟩ = V.str lW) = false from decide_eq_false fun z => by
      have := congrArg tl (V.str.inj z)
      rw [tl_lW] at this
      exact absurd (List.cons.inj (show [114] = [119] from this)).1 (by decide)]
    rfl
  · rw [show decide (V.str ⟨#[119]⟩ = V.str lW) = true from decide_eq_true (congrArg V.str (ext_tl (by rw [tl_lW])))]
    rfl
theorem in_two {h : Str} : inV (.str h) [.str lR, .str lW] = decide (tl h = [114] ∨ tl h = [119]) := by
  have := inV_str h [lR, lW]
  refine this.trans ?_
  refine decide_eq_decide.mpr ?_
  simp only [List.mem_cons, List.not_mem_nil, or_false]
  refine or_congr ⟨fun e => by rw [e]; exact tl_lR, fun e => ext_tl (e.trans tl_lR.symm)⟩ ⟨fun e => by rw [e]; exact tl_lW, fun e => ext_tl (e.trans tl_lW.symm)⟩
section
variable {P : Program} {w : World} {K : PySem.W.Frag} {mg : Str → Option Value} {base : Heap} {CA CD CS CT : Addr} {dL dW : Addr}
def spLread : Sp := fun vs H Q _ => ∃ st v d, vs = [v] ∧ TD st H v d ∧
  (∀ z, d = .str z → z.length ≤ 90000 ∧ (lr (splW z) [] = none → ∀ H', Same H H' → Q .non H') ∧ (∀ l, lr (splW z) [] = some l → ∀ c H', (∀ st, H st ≠ none → TD st H' (.ref c) (.tup (l.map stepD))) → Same H H' → Q (.ref c) H')) ∧
  ((∀ z, d ≠ .str z) → ∀ H', Same H H' → Q .non H')
theorem ok_lread {f f1 : Addr} {fd fd1 : FuncData} {k : Nat} (F : Fun K "_law_read" "_law_read" sLread f fd) (M : Mg mg) (G1 : FnOk P w K mg base CX0 k f1 fd1 ["_law_word_here"] spNum) (g1 : mg "_law_number" = some (.ref f1)) (k1 : PySem.W.keepIn K (.ref f1) = true) (b1 : Binds K fd1 ["_law_word_here"] []) :
    FnOk P w K mg base CX0 (k + 1) f fd ["_law_text_here"] spLread := by
  refine F.ok scLread (fun vs H Q E h => ?_) (fun cdv A outer s H vs Q E hr h => ?_)
  · obtain ⟨st, v, d, rfl, _⟩ := h
    rfl
  · obtain ⟨st, v, d, rfl, td, q1, q2⟩ := h
    refine ⟨_, pss_cons (ps_if (pt_not (pt_val (pe_callB call_isi (by rfl) M.isinstance (by decide +kernel) (pa_cons (pv 0) (pa_cons (pe_bltn (v := .ty "str") (by rfl) M.str (by decide +kernel) rfl) pa_nil))))) (pss_one (ps_ret pe_non)) pss_nil)
      (pss_cons (ps_set (i := 1) scLread.nd rfl (.inl rfl) (pe_lst pa_nil))
      (pss_cons (ps_for PassesOwn.never rfl (pi_list (pe_split (pv 0) pe_str)) (pg_name (i := 2) scLread.nd rfl (.inl rfl))
        (pss_cons (ps_if (PW.pt (pw_or (pt_cmpR op_notIn_seq (pe_slice sl_str (pv 2) po_none (po_some pe_int)) (pe_lst (pa_cons pe_str (pa_cons pe_str pa_nil))) (by rfl))
            (pw_or1 (pt_cmpR op_lt (pe_call G1 hr (by rfl) g1 k1 b1 .nil pass0 (pa_cons (pe_slice sl_str (pv 2) (po_some pe_int) po_none) pa_nil)) pe_int (nomark _))))) (pss_one (ps_ret pe_non)) pss_nil)
        (pss_cons (ps_set (i := 3) scLread.nd rfl (.inl rfl) (pe_tup (pa_cons (pe_ix ix_list (pe_lst (pa_cons pe_str (pa_cons pe_str pa_nil))) (pe_callTy call_int1 (by rfl) M.int (by decide +kernel) (pa_cons (pe_cmpR op_eq (pe_ix ix_str (pv 2) pe_int (fun _ _ => rfl)) pe_str (nomark _)) pa_nil)) (fun _ _ => rfl))
            (pa_cons (pe_call G1 hr (by rfl) g1 k1 b1 .nil pass0 (pa_cons (pe_slice sl_str (pv 2) (po_some pe_int) po_none) pa_nil)) pa_nil))))
        (pss_cons (ps_if (PW.pt (pw_or (pt_cmpR (op_inD (hu65 hr)) (pv 3) (pv 1) (by rfl))
            (pw_or1 (PW.pt (pw_and (pt_cmpR op_eq (pe_ix ix_tup (pv 3) pe_int (fun _ _ => rfl)) pe_str (nomark _)) (pw_and1 (pt_cmpR (op_inD (hu65 hr)) (pe_tup (pa_cons pe_str (pa_cons (pe_ix ix_tup (pv 3) pe_int (fun _ _ => rfl)) pa_nil))) (pv 1) (by rfl)))))))) (pss_one (ps_ret pe_non)) pss_nil)
        (pss_one (ps_expr (pe_bm PySem.F.plainAttrs_list PySem.F.slot_list_append PySem.F.type_list_append mt_append (pv 1) (pa_cons (pv 3) pa_nil))))))))
      (pss_cons (ps_if (pt_cmpR op_gt (pe_callB call_len_seq (by rfl) M.len PySem.boot_len (pa_cons (pv 1) pa_nil)) pe_int (nomark _)) (pss_one (ps_ret pe_non)) pss_nil)
      (pss_one (ps_ret (pe_callTy call_tuple_of (by rfl) M.tuple (by decide +kernel) (pa_cons (pv 1) pa_nil))))))), ?_⟩
    refine ⟨v, rfl, v, .ty "str", _, _, _, rfl, .ty _, td.ty, kit_ty (kit_str d), _, rfl, ?_⟩
    cases td with
    | str z =>
      obtain ⟨hz, q3, q4⟩ := q1 z rfl
      have hsm := spl_small (tl z) []
      have hsp : (Txt.split z blank).map tl = splW z := split_W z
      have hlz := len_tl z
      refine iteF ⟨Nat.zero_le _, fun o no => ⟨.str z, rfl, ⟨z, rfl⟩, z, blank, rfl, rfl, by decide +kernel, sl_of (by omega), fun p np => ⟨p, rfl, ⟨_, SqL.of upd_same⟩, ?_⟩⟩⟩
      obtain ⟨ys, eys⟩ : ∃ ys, ys = Txt.split z blank := ⟨_, rfl⟩
      have hlen : ys.length = (splW z).length := by rw [eys, ← hsp, List.length_map]
      have hlw : (splW z).length ≤ z.length + 1 := by rw [hlz]; exact hsm.1
      rw [← eys]
      have so := same_new (o := .lst []) no
      have sp : Same H (upd (upd H o (.lst [])) p (.lst (ys.map V.str))) := Same.trans so (same_new np)
      have npo : p ≠ o := (ne_of_none upd_same np).symm
      have hp0 : (upd (upd H o (.lst [])) p (.lst (ys.map V.str))) p = some (.lst (ys.map V.str)) := upd_same
      have ho0 : (upd (upd H o (.lst [])) p (.lst (ys.map V.str))) o = some (.lst []) := same_new np _ _ upd_same
      generalize upd (upd H o (.lst [])) p (.lst (ys.map V.str)) = H0 at sp hp0 ho0 ⊢
      refine for_list (xs := ys.map V.str) (fun i σ H' => ∃ y2 y3 xs acc, σ = [some (.str z), some (.ref o), y2, y3] ∧ H' o = some (.lst xs) ∧ H' p = some (.lst (ys.map V.str)) ∧ PVs H H' xs acc ∧ (∀ q ∈ acc, wordB q.1 = true) ∧ acc.length ≤ i ∧ lr (splW z) [] = lr ((splW z).drop i) acc ∧ Same H H') ⟨_, _, [], [], rfl, ho0, hp0, .nil, (fun q hq => absurd hq List.not_mem_nil), Nat.le_refl _, rfl, sp⟩ (fun i σ H' _ hP => ?_) (fun i x σ H2 hx hP => ?_) (fun σ H2 hP => ?_)
      · obtain ⟨_, _, _, _, _, _, h, _⟩ := hP
        exact SqL.of h
      · obtain ⟨y2, y3, xs, acc, rfl, ho, hp, txs, wac, hal, hlr, e2⟩ := hP
        rw [List.getElem?_map] at hx
        cases hyi : ys[i]? with
        | none => rw [hyi] at hx; cases hx
        | some wd =>
        rw [hyi] at hx
        have ex : V.str wd = x := Option.some.inj hx
        subst ex
        have hw : (splW z)[i]? = some (tl wd) := by
          rw [← hsp, ← eys, List.getElem?_map, hyi]
          rfl
        have hil : i < (splW z).length := (List.getElem?_eq_some_iff.mp hw).1
        have hdr : (splW z).drop i = tl wd :: (splW z).drop (i + 1) := by
          rw [List.drop_eq_getElem_cons hil]
          congr 1
          rw [List.getElem?_eq_getElem hil] at hw
          exact Option.some.inj hw
        rw [hdr] at hlr
        have hyl : wd.length ≤ 100000 := by
          have := hsm.2 _ (List.mem_of_getElem? hw)
          rw [len_tl]
          have h0 : ([] : List Nat).length = 0 := rfl
          omega
        obtain ⟨hd, ehd⟩ : ∃ x : Str, x = cutS wd none (some 1) := ⟨_, rfl⟩
        obtain ⟨rs, ers⟩ : ∃ x : Str, x = cutS wd (some 1) none := ⟨_, rfl⟩
        have thd : tl hd = (tl wd).take 1 := by rw [ehd]; exact cut_head wd
        have trs : tl rs = (tl wd).drop 1 := by rw [ers]; exact cut_tail wd
        have hrs : rs.length ≤ 100000 := by
          rw [len_tl, trs, List.length_drop, ← len_tl]
          omega
        refine ⟨.str wd, rfl, 1, rfl, wd, rfl, sl_of hyl, by show 2 ≤ sizeLine; decide, fun pl npl => ⟨pl, [.str lR, .str lW], rfl, .inl (SqL.of upd_same), rfl, rfl, _, rfl, ?_⟩⟩
        rw [← ehd]
        have sl := same_new (o := .lst [.str lR, .str lW]) npl
        have e3 := Same.trans e2 sl
        rw [show (if true = true then !inV (.str hd) [.str lR, .str lW] else inV (.str hd) [.str lR, .str lW]) = !decide (tl hd = [114] ∨ tl hd = [119]) from by rw [if_pos rfl, in_two]]
        cases hc : tl wd with
        | nil =>
          rw [hc] at thd hlr
          rw [show decide (tl hd = [114] ∨ tl hd = [119]) = false from decide_eq_false (by rw [thd]; rintro (h | h) <;> cases h)]
          exact iteT (iteT (q3 (hlr.trans (lr_bad rfl)) _ e3))
        | cons c ds =>
          rw [hc] at thd trs hlr
          have trs' : tl rs = ds := trs
          have thd' : tl hd = [c] := thd
          by_cases h2 : c = 114 ∨ c = 119
          rotate_left
          · rw [show decide (tl hd = [114] ∨ tl hd = [119]) = false from decide_eq_false (by
              rw [thd']
              rintro (h | h)
              · exact h2 (.inl (List.cons.inj h).1)
              · exact h2 (.inr (List.cons.inj h).1))]
            exact iteT (iteT (q3 (hlr.trans (lr_bad (lw_other (fun e => h2 (.inl e)) (fun e => h2 (.inr e))))) _ e3))
          rw [show decide (tl hd = [114] ∨ tl hd = [119]) = true from decide_eq_true (by
            rw [thd']
            rcases h2 with h | h
            · exact .inl (by rw [h])
            · exact .inr (by rw [h]))]
          refine iteF ⟨.str wd, rfl, 1, rfl, wd, rfl, sl_of hyl, rs, (by rw [ers]; rfl), hrs, fun H3 e23 => ⟨_, 0, rfl, rfl, _, rfl, ?_⟩⟩
          have e4 := Same.trans e3 e23
          rw [trs']
          by_cases hn : numV ds < 0
          · rw [decide_eq_true hn]
            exact iteT (q3 (hlr.trans (lr_bad (lw_neg h2 hn))) _ e4)
          rw [decide_eq_false hn]
          have hlw' := lw_pos h2 hn
          refine iteF ⟨by show 2 ≤ sizeLine; decide, fun pr npr => ?_⟩
          have sr := same_new (o := .lst [.str wR, .str wW]) npr
          refine ⟨.str wd, rfl, wd, 0, c, rfl, rfl, sl_of hyl, ?_, rfl, .inr ⟨_, rfl, pr, [.str wR, .str wW], _, .str (wdOf c), rfl, rfl, SqL.of upd_same, pick_wd h2, .str wd, rfl, 1, rfl, wd, rfl, sl_of hyl, rs, (by rw [ers]; rfl), hrs, fun H5 e35 => ⟨by show 2 ≤ sizeLine; decide, fun pt npt => ?_⟩⟩⟩
          · show atI (tl wd) 0 = some c
            rw [hc]
            exact atI_nat (j := 0) (xs := c :: ds) rfl
          rw [trs']
          have e25 : Same H2 H5 := Same.trans sl (Same.trans e23 (Same.trans sr e35))
          have st5 := same_new (o := .tup [.str (wdOf c), .int (numV ds)]) npt
          have e26 := Same.trans e25 st5
          have hpt6 : (upd H5 pt (.tup [.str (wdOf c), .int (numV ds)])) pt = some (.tup [.str (wdOf c), .int (numV ds)]) := upd_same
          have nptH : H pt = none := Same.free (Same.trans e2 e25) npt
          generalize upd H5 pt (.tup [.str (wdOf c), .int (numV ds)]) = H6 at e26 hpt6 st5 ⊢
          have ho6 := e26 _ _ ho
          have tx6 : PVs H H6 xs acc := txs.mono fun b ys hb => e26 _ _ hb
          have npto : pt ≠ o := ne_of hpt6 ho6 (fun z => nomatch z)
          have t6 : TDs o H6 xs (acc.map stepD) := tx6.td fun b ys _ hb => ne_of hb ho6 (fun z => nomatch z)
          have tp6 : TD o H6 (.ref pt) (stepD (wdOf c, numV ds)) := .tup npto hpt6 (.cons (.str _) (.cons (.int _) .nil))
          have hxl := txs.len
          have eH6 : Same H H6 := Same.trans e2 e26
          have inv : ∀ H7, Same H6 H7 → mayL (wdOf c, numV ds) acc = true → ∃ y2 y3 xs' acc', [some (V.str z), some (.ref o), some (.str wd), some (.ref pt)] = [some (V.str z), some (.ref o), y2, y3] ∧ (upd H7 o (.lst (xs ++ [.ref pt]))) o = some (.lst xs') ∧ (upd H7 o (.lst (xs ++ [.ref pt]))) p = some (.lst (ys.map V.str)) ∧ PVs H (upd H7 o (.lst (xs ++ [.ref pt]))) xs' acc' ∧ (∀ q ∈ acc', wordB q.1 = true) ∧ acc'.length ≤ i + 1 ∧ lr (splW z) [] = lr ((splW z).drop (i + 1)) acc' ∧ Same H (upd H7 o (.lst (xs ++ [.ref pt]))) := fun H7 e67 hm => by
            have ho7 := e67 _ _ ho6
            have keep : ∀ b ys, H7 b = some (.tup ys) → (upd H7 o (.lst (xs ++ [.ref pt]))) b = some (.tup ys) := fun b ys hb => by
              rw [upd_ne (ne_of hb ho7 (fun z => nomatch z))]
              exact hb
            refine ⟨_, _, xs ++ [.ref pt], acc ++ [(wdOf c, numV ds)], rfl, upd_same, ?_, ?_, ?_, ?_, ?_, Same.mut (Same.trans eH6 e67) no⟩
            · rw [upd_ne npo]
              exact e67 _ _ (e26 _ _ hp)
            · exact (tx6.mono fun b ys hb => keep b ys (e67 _ _ hb)).snoc nptH (keep _ _ (e67 _ _ hpt6))
            · intro q hq
              rcases List.mem_append.mp hq with h | h
              · exact wac q h
              · rw [List.mem_singleton.mp h]
                exact wd_word c
            · rw [List.length_append]
              show acc.length + 1 ≤ i + 1
              omega
            · exact hlr.trans (lr_may hlw' hm)
          have hax : xs.length < 100000 := by omega
          refine ⟨.ref pt, rfl, .ref o, rfl, stepP (wdOf c, numV ds), acc.map stepP, tp6.stepDp, .lst (SqL.of ho6) t6.stepsDp, stepP_shaped (wd_word c), stepPs_shapedL wac, _, rfl, ?_⟩
          rw [any_step]
          cases h1m : decide ((wdOf c, numV ds) ∈ acc) with
          | true => exact iteT (iteT (q3 (hlr.trans (lr_not hlw' (by unfold mayL; rw [h1m]; rfl))) _ eH6))
          | false =>
            refine iteF ⟨.ref pt, rfl, pt, [.str (wdOf c), .int (numV ds)], 0, .str (wdOf c), rfl, rfl, SqT.of hpt6, rfl, rfl, _, rfl, ?_⟩
            rw [show decide (V.str (wdOf c) = V.str (Str.ofString "read")) = decide (wdOf c = wR) from decStr _ _]
            cases h2m : decide (wdOf c = wR) with
            | false =>
              refine iteF (iteF ⟨.ref o, rfl, .inl ⟨rfl, _, SqL.of ho6⟩, .ref pt, rfl, o, xs, .ref pt, rfl, rfl, ho6, sl_lt hax, inv H6 (Same.refl _) ?_⟩)
              unfold mayL
              rw [h1m]
              show (true && !(decide (wdOf c = wR) && _)) = true
              rw [h2m]
              rfl
            | true =>
              refine iteT ⟨.ref pt, rfl, pt, [.str (wdOf c), .int (numV ds)], 1, .int (numV ds), rfl, rfl, SqT.of hpt6, rfl, by show 2 ≤ sizeLine; decide, fun pq npq => ?_⟩
              have sq := same_new (o := .tup [.str wW, .int (numV ds)]) npq
              refine ⟨.ref o, rfl, stepP (wW, numV ds), acc.map stepP, .tup (SqT.of upd_same) (.cons (.str _) (.cons (.int _) .nil)), .lst (SqL.of (sq _ _ ho6)) (t6.mono (.of sq)).stepsDp, stepP_shaped (show wordB wW = true by decide +kernel), stepPs_shapedL wac, _, rfl, ?_⟩
              rw [any_step]
              cases h3m : decide ((wW, numV ds) ∈ acc) with
              | true =>
                refine iteT (q3 (hlr.trans (lr_not hlw' ?_)) _ (Same.trans eH6 sq))
                unfold mayL
                show (_ && !(decide (wdOf c = wR) && decide ((wW, numV ds) ∈ acc))) = false
                rw [h2m, h3m]
                exact Bool.and_false _
              | false =>
                refine iteF ⟨.ref o, rfl, .inl ⟨rfl, _, SqL.of (sq _ _ ho6)⟩, .ref pt, rfl, o, xs, .ref pt, rfl, rfl, sq _ _ ho6, sl_lt hax, inv _ sq ?_⟩
                unfold mayL
                rw [h1m]
                show (true && !(_ && decide ((wW, numV ds) ∈ acc))) = true
                rw [h3m, Bool.and_false]
                rfl
      · obtain ⟨y2, y3, xs, acc, rfl, ho, hp, txs, wac, hal, hlr, e2⟩ := hP
        rw [List.length_map, hlen, List.drop_of_length_le (Nat.le_refl _)] at hlr
        have hlr' : lr (splW z) [] = if acc.length ≤ 8 then some acc else none := hlr
        have hxl := txs.len
        refine ⟨.ref o, rfl, o, xs, rfl, .inl (SqL.of ho), _, 8, rfl, rfl, _, rfl, ?_⟩
        by_cases h8 : acc.length ≤ 8
        · rw [if_pos h8] at hlr'
          rw [decide_eq_false (show ¬ (8 : Int) < (xs.length : Int) by omega)]
          refine iteF ⟨.ref o, rfl, o, xs, rfl, .inl ⟨SqL.of ho, fun c nc => q4 acc hlr' c _ (fun st' hst => ?_) (Same.new e2 nc)⟩⟩
          have nc' : H c = none := Same.free e2 nc
          refine .tup (fun e => hst (by rw [← e]; exact nc')) upd_same ((txs.mono fun b ys hb => same_new nc _ _ hb).td fun b ys hb _ e => hst (by rw [← e]; exact hb))
        · rw [if_neg h8] at hlr'
          rw [decide_eq_true (show (8 : Int) < (xs.length : Int) by omega)]
          exact iteT (q3 hlr' H2 e2)
    | _ => exact iteT (q2 (fun z => by intro e; cases e) H (Same.refl H))
end
end As

namespace As
open PySem PySem.Spec PyProof.Rows L2 TL NumText
abbrev sSpoilt : Stmt := topS 32
abbrev nSpoilt : List Str := ["_law_state", "_law_text_here", "_law_way", "_law_place", "_law_signs", "_law_sign", "_law_words", "_law_k", "_law_odd"]
theorem scSpoilt : FnScope nSpoilt ["_law_state", "_law_text_here"] (defScope sSpoilt) := ⟨rfl, rfl, rfl, by decide +kernel, rfl, by decide +kernel, by decide +kernel⟩
/-! ### text * int -/
theorem op_mulS {X : Cx} : OpR X (binaryOp .Mult) (fun x y H Q => ∃ (a : Str) (n : Int), x = .str a ∧ y = .int n ∧ MulOk a n ∧ Q (.str (Txt.mul a n)) H) := by
  intro pins s σ H x y v u Q I rx ry h
  obtain ⟨a, n, rfl, rfl, ok, q⟩ := h
  obtain ⟨t, rfl⟩ := rx
  obtain ⟨t', rfl⟩ := ry
  exact SB.mul ok fun t'' k => ⟨.str _, H, I.tok k, ⟨t'', rfl⟩, q⟩
/-! ### lengths -/
theorem cat_len (a b : Str) : (a ++ b).length = a.length + b.length := by
  rw [len_tl, tl_append, List.length_append, ← len_tl, ← len_tl]
theorem joinL_len : ∀ l : List (List Nat), (joinL [32] l).length ≤ (l.map List.length).sum + l.length
  | [] => Nat.zero_le _
  | [p] => by
    show p.length ≤ _
    rw [List.map_cons, List.sum_cons]
    omega
  | p :: q :: r => by
    have ih := joinL_len (q :: r)
    show (p ++ ([32] ++ joinL [32] (q :: r))).length ≤ _
    simp only [List.length_append, List.map_cons, List.sum_cons, List.length_cons, List.length_nil] at ih ⊢
    omega
theorem join_le (ys : List Str) : (Txt.join blank ys).length ≤ (ys.map (·.length)).sum + ys.length := by
  have e : ys = (ys.map tl).map SX.S := by
    rw [List.map_map]
    exact (List.map_id'' (fun x => SX.S_tl x) ys).symm
  have e2 : (ys.map (·.length)) = (ys.map tl).map List.length := by
    rw [List.map_map]
    exact List.map_congr_left fun x _ => len_tl x
  rw [e2]
  have : Txt.join blank ys = SX.S (joinL [32] (ys.map tl)) := by
    rw [blank_S]
    conv => lhs; rw [e]
    exact SX.join_S _ _
  rw [this, SX.S_len]
  have := joinL_len (ys.map tl)
  rw [List.length_map] at this
  exact this
/-- texts of no more than b signs, no more than n of them -/
def Sm (n b : Nat) (ys : List Str) : Prop := ys.length ≤ n ∧ ∀ y ∈ ys, y.length ≤ b
theorem Sm.join {n b : Nat} {ys : List Str} (h : Sm n b ys) : (ys.map (·.length)).sum + ys.length * blank.length ≤ n * b + n ∧ (Txt.join blank ys).length ≤ n * b + n := by
  have h1 := sum_le (fun y : Str => y.length) b ys h.2
  have h2 := join_le ys
  have h3 : ys.length * b ≤ n * b := Nat.mul_le_mul_right _ h.1
  have h4 : blank.length = 1 := by rw [len_tl, tl_blank]; rfl
  have h5 := h.1
  rw [h4]
  have h1' : (ys.map (·.length)).sum ≤ ys.length * b := h1
  omega
theorem Sm.app {n m b : Nat} {xs ys : List Str} (h : Sm n b xs) (h2 : Sm m b ys) : Sm (n + m) b (xs ++ ys) := by
  refine ⟨by rw [List.length_append]; have := h.1; have := h2.1; omega, fun y hy => ?_⟩
  rcases List.mem_append.mp hy with z | z
  · exact h.2 y z
  · exact h2.2 y z
theorem Sm.cut {n b : Nat} {ys : List Str} (h : Sm n b ys) (lo hi : Option Int) : ∃ zs : List Str, cutV (ys.map V.str) lo hi = zs.map V.str ∧ Sm n b zs := by
  unfold cutV
  refine ⟨(ys.drop (HT.sIx (ys.map V.str).length 0 lo)).take (HT.sIx (ys.map V.str).length (ys.map V.str).length hi - HT.sIx (ys.map V.str).length 0 lo), by rw [List.map_take, List.map_drop], ?_, fun y hy => h.2 y (List.mem_of_mem_drop (List.mem_of_mem_take hy))⟩
  rw [List.length_take, List.length_drop]
  have := h.1
  omega
theorem Sm.rev {n b : Nat} {ys : List Str} (h : Sm n b ys) : Sm n b ys.reverse := ⟨by rw [List.length_reverse]; exact h.1, fun y hy => h.2 y (List.mem_reverse.mp hy)⟩
theorem Sm.le {n b c : Nat} {ys : List Str} (h : Sm n b ys) (hc : b ≤ c) : Sm n c ys := ⟨h.1, fun y hy => Nat.le_trans (h.2 y hy) hc⟩
theorem TDs.pickIn {st : Addr} {H : Hp} {xs : List V} {ds : List D} {r : Int} (t : TDs st H xs ds) (h0 : 0 ≤ r) (h1 : r < xs.length) : ∃ v d, atI xs r = some v ∧ TD st H v d ∧ d ∈ ds := by
  obtain ⟨j, rfl⟩ : ∃ j : Nat, r = (j : Int) := ⟨r.toNat, by omega⟩
  have hj : j < xs.length := by omega
  have hx : xs[j]? = some xs[j] := List.getElem?_eq_getElem hj
  obtain ⟨d, hd, td⟩ := t.get hx
  exact ⟨xs[j], d, atI_nat hx, td, List.mem_of_getElem? hd⟩
theorem pick_str {xs : List Str} {r : Int} (h0 : 0 ≤ r) (h1 : r < xs.length) : ∃ y, y ∈ xs ∧ atI (xs.map V.str) r = some (.str y) := by
  obtain ⟨j, rfl⟩ : ∃ j : Nat, r = (j : Int) := ⟨r.toNat, by omega⟩
  have hj : j < xs.length := by omega
  exact ⟨xs[j], List.getElem_mem hj, atI_nat (by rw [List.getElem?_map, List.getElem?_eq_getElem hj]; rfl)⟩
theorem rep_size (x : Array Nat) : ∀ (n : Nat) (a : Array Nat), ((List.replicate n x).foldl (· ++ ·) a).size = a.size + n * x.size
  | 0, a => by simp
  | n + 1, a => by
    rw [List.replicate_succ, List.foldl_cons, rep_size x n, Array.size_append, Nat.add_mul, Nat.one_mul]
    omega
theorem mul_len (x : Str) (n : Int) : (Txt.mul x n).length ≤ n.toNat * x.length + x.length := by
  unfold Txt.mul
  split
  · exact Nat.zero_le _
  · split
    · omega
    · show ((List.replicate n.toNat x.cps).foldl (· ++ ·) #[]).size ≤ _
      rw [rep_size]
      show 0 + n.toNat * x.length ≤ _
      omega
def signsS : Str := "rw0123456789 -+\nRW.,:x_"
theorem signs_len : signsS.length = 23 := by decide +kernel
def nineS : Str := "9"
def oneS : Str := "1"
theorem nine_ok : MulOk nineS 9 := ⟨by decide +kernel, fun _ _ => by decide +kernel, fun _ _ => by decide +kernel⟩
theorem one_ok : MulOk oneS 5000 := ⟨by decide +kernel, fun _ _ => by decide +kernel, fun _ _ => by decide +kernel⟩
theorem nine_len : (Txt.mul nineS 9).length ≤ 10 := by
  have := mul_len nineS 9
  have h : nineS.length = 1 := by decide +kernel
  rw [h] at this
  exact this
theorem one_len : (Txt.mul oneS 5000).length ≤ 5001 := by
  have := mul_len oneS 5000
  have h : oneS.length = 1 := by decide +kernel
  rw [h] at this
  exact this
def mz (ys : List Str) : Nat := (ys.map (·.length)).sum + ys.length
theorem mz_app (xs ys : List Str) : mz (xs ++ ys) = mz xs + mz ys := by
  unfold mz
  rw [List.map_append, List.sum_append, List.length_append]
  omega
theorem Sm.mz {n b : Nat} {ys : List Str} (h : Sm n b ys) : mz ys ≤ n * b + n := by
  have h1 := sum_le (fun y : Str => y.length) b ys h.2
  have h3 : ys.length * b ≤ n * b := Nat.mul_le_mul_right _ h.1
  have h5 := h.1
  unfold As.mz
  have h1' : (ys.map (·.length)).sum ≤ ys.length * b := h1
  omega
theorem blank_len : blank.length = 1 := by rw [len_tl, tl_blank]; rfl
theorem mz_join {ys : List Str} {n : Nat} (h : mz ys ≤ n) : (ys.map (·.length)).sum + ys.length * blank.length ≤ n ∧ (Txt.join blank ys).length ≤ n := by
  have h2 := join_le ys
  unfold mz at h
  rw [blank_len]
  omega
theorem lR_len : lR.length = 1 := by rw [len_tl, tl_lR]; rfl
def oddL (o9 o5 : Str) : List Str := ["r0", "w0", "r00", "r01", "w-1", "r+1", "w100000000", "w100000001", o9, o5, "r", ""]
theorem odd_len {o9 o5 y : Str} (h9 : o9.length ≤ 5010) (h5 : o5.length ≤ 5010) (h : y ∈ oddL o9 o5) : y.length ≤ 5010 := by
  unfold oddL at h
  simp only [List.mem_cons, List.not_mem_nil, or_false] at h
  rcases h with rfl | rfl | rfl | rfl | rfl | rfl | rfl | rfl | rfl | rfl | rfl | rfl
  all_goals first | assumption | decide +kernel
section
variable {P : Program} {w : World} {K : PySem.W.Frag} {mg : Str → Option Value} {base : Heap} {CA CD CS CT : Addr} {dL dW : Addr}
def spSpoilt : Sp := fun vs H Q _ => ∃ (st : Addr) (z : Str), vs = [.ref st, .str z] ∧ Well st H ∧ z.length ≤ 100 ∧ ∀ v d H', TD st H' v d → (∀ z', d = .str z' → z'.length ≤ 90000) → isDealing d = false → Well st H' → ExS st H H' → Q v H'
theorem ok_spoilt {f f1 : Addr} {fd fd1 : FuncData} {k : Nat} (F : Fun K "_law_spoilt" "_law_spoilt" sSpoilt f fd) (M : Mg mg) (G1 : FnOk P w K mg base CX0 k f1 fd1 ["_law_state", "_law_base"] spDigit) (g1 : mg "_law_digit" = some (.ref f1)) (k1 : PySem.W.keepIn K (.ref f1) = true) (b1 : Binds K fd1 ["_law_state", "_law_base"] []) :
    FnOk P w K mg base CX0 (k + 1) f fd ["_law_state", "_law_text_here"] spSpoilt := by
  refine F.ok scSpoilt (fun vs H Q E h => ?_) (fun cdv A outer s H vs Q E hr h => ?_)
  · obtain ⟨st, z, rfl, _⟩ := h
    rfl
  · obtain ⟨st, z, rfl, hW, hz, q⟩ := h
    refine ⟨_, pss_cons (ps_set (i := 2) scSpoilt.nd rfl (.inl rfl) (pe_call G1 hr (by rfl) g1 k1 b1 .nil pass0 (pa_cons (pv 0) (pa_cons pe_int pa_nil))))
      (pss_cons (ps_set (i := 3) scSpoilt.nd rfl (.inl rfl) (pe_call G1 hr (by rfl) g1 k1 b1 .nil pass0 (pa_cons (pv 0) (pa_cons (pe_add (pe_callB call_len_str (by rfl) M.len PySem.boot_len (pa_cons (pv 1) pa_nil)) pe_int) pa_nil))))
      (pss_cons (ps_set (i := 4) scSpoilt.nd rfl (.inl rfl) pe_str)
      (pss_cons (ps_set (i := 5) scSpoilt.nd rfl (.inl rfl) (pe_ix ix_str (pv 4) (pe_call G1 hr (by rfl) g1 k1 b1 .nil pass0 (pa_cons (pv 0) (pa_cons (pe_callB call_len_str (by rfl) M.len PySem.boot_len (pa_cons (pv 4) pa_nil)) pa_nil))) (fun _ _ => rfl)))
      (pss_cons (ps_set (i := 6) scSpoilt.nd rfl (.inl rfl) (pe_split (pv 1) pe_str))
      (pss_cons (ps_set (i := 7) scSpoilt.nd rfl (.inl rfl) (pe_call G1 hr (by rfl) g1 k1 b1 .nil pass0 (pa_cons (pv 0) (pa_cons (pe_callB call_len_seq (by rfl) M.len PySem.boot_len (pa_cons (pv 6) pa_nil)) pa_nil))))
      (pss_cons (ps_if (pt_cmpR op_eq (pv 2) pe_int (nomark _)) (pss_one (ps_ret (pe_op op_add_str (pe_op op_add_str (pe_slice sl_str (pv 1) po_none (po_some (pv 3))) (pv 5)) (pe_slice sl_str (pv 1) (po_some (pv 3)) po_none)))) pss_nil)
      (pss_cons (ps_if (pt_cmpR op_eq (pv 2) pe_int (nomark _)) (pss_one (ps_ret (pe_op op_add_str (pe_slice sl_str (pv 1) po_none (po_some (pv 3))) (pe_slice sl_str (pv 1) (po_some (pe_add (pv 3) pe_int)) po_none)))) pss_nil)
      (pss_cons (ps_if (pt_cmpR op_eq (pv 2) pe_int (nomark _)) (pss_one (ps_ret (pe_op op_add_str (pe_op op_add_str (pe_slice sl_str (pv 1) po_none (po_some (pv 3))) (pv 5)) (pe_slice sl_str (pv 1) (po_some (pe_add (pv 3) pe_int)) po_none)))) pss_nil)
      (pss_cons (ps_if (pt_cmpR op_eq (pv 2) pe_int (nomark _)) (pss_one (ps_ret (pe_join pe_str (pe_revL (pv 6))))) pss_nil)
      (pss_cons (ps_if (pt_cmpR op_eq (pv 2) pe_int (nomark _)) (pss_one (ps_ret (pe_join pe_str (pe_op op_cat (pe_slice sl_list (pv 6) po_none (po_some (pe_add (pv 7) pe_int))) (pe_slice sl_list (pv 6) (po_some (pv 7)) po_none))))) pss_nil)
      (pss_cons (ps_if (pt_cmpR op_eq (pv 2) pe_int (nomark _)) (pss_one (ps_ret (pe_join pe_str (pe_op op_cat (pe_slice sl_list (pv 6) po_none (po_some (pv 7))) (pe_slice sl_list (pv 6) (po_some (pe_add (pv 7) pe_int)) po_none))))) pss_nil)
      (pss_cons (ps_set (i := 8) scSpoilt.nd rfl (.inl rfl) (pe_lst (pa_cons pe_str (pa_cons pe_str (pa_cons pe_str (pa_cons pe_str (pa_cons pe_str (pa_cons pe_str (pa_cons pe_str (pa_cons pe_str (pa_cons (pe_op op_add_str pe_str (pe_op op_mulS pe_str pe_int)) (pa_cons (pe_op op_add_str pe_str (pe_op op_mulS pe_str pe_int)) (pa_cons pe_str (pa_cons pe_str pa_nil))))))))))))))
      (pss_cons (ps_if (pt_cmpR op_lt (pv 2) pe_int (nomark _)) (pss_one (ps_ret (pe_join pe_str (pe_op op_cat (pe_op op_cat (pe_slice sl_list (pv 6) po_none (po_some (pv 7))) (pe_lst (pa_cons (pe_ix ix_list (pv 8) (pe_call G1 hr (by rfl) g1 k1 b1 .nil pass0 (pa_cons (pv 0) (pa_cons pe_int pa_nil))) (fun _ _ => rfl)) pa_nil))) (pe_slice sl_list (pv 6) (po_some (pe_add (pv 7) pe_int)) po_none))))) pss_nil)
      (pss_cons (ps_if (pt_cmpR op_eq (pv 2) pe_int (nomark _)) (pss_one (ps_ret (pe_ix ix_list (pe_lst (pa_cons (pe_op op_add_str pe_str (pv 1)) (pa_cons (pe_op op_add_str (pv 1) pe_str) (pa_cons (pe_op op_add_str (pv 1) pe_str) (pa_cons pe_str (pa_cons pe_str (pa_cons (pe_op op_add_str (pe_op op_add_str (pv 1) pe_str) (pv 1)) pa_nil)))))))
          (pe_call G1 hr (by rfl) g1 k1 b1 .nil pass0 (pa_cons (pv 0) (pa_cons pe_int pa_nil))) (fun _ _ => rfl)))) pss_nil)
      (pss_one (ps_ret (pe_ix ix_list (pe_lst (pa_cons pe_non (pa_cons pe_int (pa_cons (pe_lst (pa_cons (pv 1) pa_nil)) (pa_cons (pe_callTy call_tuple_of (by rfl) M.tuple (by decide +kernel) (pa_cons (pv 6) pa_nil)) (pa_cons pe_bl (pa_cons pe_dnewK pa_nil)))))))
          (pe_call G1 hr (by rfl) g1 k1 b1 .nil pass0 (pa_cons (pv 0) (pa_cons pe_int pa_nil))) (fun _ _ => rfl)))))))))))))))))), ?_⟩
    have hbl : blank.length = 1 := by rw [len_tl, tl_blank]; rfl
    have cl : ∀ lo hi, (cutS z lo hi).length ≤ 100 := fun lo hi => Nat.le_trans (cutS_length z lo hi) hz
    refine ⟨.ref st, rfl, st, 10, rfl, hW, by decide, by decide, fun way H1 w0 w1 W1 e1 => ?_⟩
    refine ⟨.ref st, rfl, .str z, rfl, z, rfl, sl_of (by omega), _, 1, rfl, rfl, st, _, rfl, W1, by omega, by omega, fun pl H2 p0 p1 W2 e2 => ?_⟩
    refine ⟨.str signsS, rfl, .ref st, rfl, .str signsS, rfl, signsS, rfl, by rw [signs_len]; decide, st, _, rfl, W2, by rw [signs_len]; decide, by rw [signs_len]; decide, fun r H3 r0 r1 W3 e3 => ?_⟩
    rw [signs_len] at r1
    obtain ⟨c, hc⟩ : ∃ c, atI signsS.cps.toList r = some c := by
      obtain ⟨j, rfl⟩ : ∃ j : Nat, r = (j : Int) := ⟨r.toNat, by omega⟩
      have hj : j < (tl signsS).length := by rw [← len_tl, signs_len]; omega
      exact ⟨(tl signsS)[j], atI_nat (List.getElem?_eq_getElem hj)⟩
    refine ⟨signsS, r, c, rfl, rfl, by rw [signs_len]; decide, hc, ?_⟩
    have hsg : (⟨#[c]⟩ : Str).length = 1 := rfl
    generalize (⟨#[c]⟩ : Str) = sg at hsg ⊢
    refine ⟨.str z, rfl, ⟨z, rfl⟩, z, blank, rfl, rfl, by decide +kernel, sl_of (by omega), fun pw npw => ?_⟩
    have hsm := spl_small (tl z) []
    have hsp : (Txt.split z blank).map tl = splW z := split_W z
    obtain ⟨ys, eys⟩ : ∃ ys, ys = Txt.split z blank := ⟨_, rfl⟩
    rw [← eys] at hsp ⊢
    have hlz := len_tl z
    have hyl : ys.length = (splW z).length := by rw [← hsp, List.length_map]
    have smy : Sm 101 100 ys := by
      refine ⟨by rw [hyl]; have := hsm.1; show (spl [32] 0 [] (tl z)).length ≤ 101; omega, fun y hy => ?_⟩
      have hm : tl y ∈ splW z := by rw [← hsp]; exact List.mem_map_of_mem hy
      have := hsm.2 _ hm
      rw [len_tl y]
      have h0 : ([] : List Nat).length = 0 := rfl
      omega
    have hy1 : 0 < ys.length := by
      rw [hyl]
      exact List.length_pos_iff.mpr (spl_ne (tl z) [])
    have sw := same_new (o := .lst (ys.map V.str)) npw
    have npst : pw ≠ st := W3.ne npw
    have hy101 := smy.1
    refine ⟨.ref st, rfl, .ref pw, rfl, pw, _, rfl, .inl (SqL.of upd_same), st, _, rfl, W3.same sw, by rw [List.length_map]; omega, by rw [List.length_map]; omega, fun kk H4 k0 k1' W4 e4 => ?_⟩
    have hpw : H4 pw = some (.lst (ys.map V.str)) := e4 _ _ npst upd_same
    have E4 : ExS st H H4 := e1.trans (e2.trans (e3.trans ((ExS.of sw).trans e4)))
    have fin : ∀ (z' : Str) H', z'.length ≤ 90000 → Same H4 H' → Q (.str z') H' := fun z' H' hl e => q (.str z') (.str z') H' (.str _) (fun z2 h2 => by cases h2; exact hl) rfl (W4.same e) (E4.trans (.of e))
    clear e1 e2 e3 e4 W1 W2 W3 sw npw hW hc
    have sl1 : z.length ≤ sizeLine := sl_of (by omega)
    -- 0
    refine ⟨.int way, rfl, rfl, _, rfl, ite2 (fun _ => ?_) (fun _ => ?_)⟩
    · have c1 := cl none (some pl)
      have c2 := cl (some pl) none
      refine ⟨.str z, rfl, .int pl, rfl, pl, rfl, z, rfl, sl1, .str sg, rfl, _, _, rfl, rfl, sl_of (by omega), .str z, rfl, .int pl, rfl, pl, rfl, z, rfl, sl1, _, _, rfl, rfl, ?_, fin _ _ ?_ (Same.refl _)⟩
      · rw [cat_len]
        exact sl_of (by omega)
      · rw [cat_len, cat_len]
        omega
    -- 1
    refine ⟨.int way, rfl, rfl, _, rfl, ite2 (fun _ => ?_) (fun _ => ?_)⟩
    · have c1 := cl none (some pl)
      have c2 := cl (some (pl + 1)) none
      refine ⟨.str z, rfl, .int pl, rfl, pl, rfl, z, rfl, sl1, .str z, rfl, .int pl, rfl, pl, 1, rfl, rfl, pl + 1, rfl, z, rfl, sl1, _, _, rfl, rfl, sl_of (by omega), fin _ _ ?_ (Same.refl _)⟩
      rw [cat_len]
      omega
    -- 2
    refine ⟨.int way, rfl, rfl, _, rfl, ite2 (fun _ => ?_) (fun _ => ?_)⟩
    · have c1 := cl none (some pl)
      have c2 := cl (some (pl + 1)) none
      refine ⟨.str z, rfl, .int pl, rfl, pl, rfl, z, rfl, sl1, .str sg, rfl, _, _, rfl, rfl, sl_of (by omega), .str z, rfl, .int pl, rfl, pl, 1, rfl, rfl, pl + 1, rfl, z, rfl, sl1, _, _, rfl, rfl, ?_, fin _ _ ?_ (Same.refl _)⟩
      · rw [cat_len]
        exact sl_of (by omega)
      · rw [cat_len, cat_len]
        omega
    -- 3
    refine ⟨.int way, rfl, rfl, _, rfl, ite2 (fun _ => ?_) (fun _ => ?_)⟩
    · refine ⟨⟨_, rfl⟩, .ref pw, rfl, pw, _, rfl, SqL.of hpw, fun p3 n3 => ⟨blank, p3, ys.reverse, rfl, rfl, .inl (SqL.of (by rw [upd_same, List.map_reverse])), ?_, fin _ _ ?_ (same_new n3)⟩⟩
      · have := smy.rev.join.1
        omega
      · have := smy.rev.join.2
        omega
    -- 4
    refine ⟨.int way, rfl, rfl, _, rfl, ite2 (fun _ => ?_) (fun _ => ?_)⟩
    · obtain ⟨z1, ez1, s1⟩ := smy.cut none (some (kk + 1))
      obtain ⟨z2, ez2, s2⟩ := smy.cut (some kk) none
      have l1 := s1.1
      have l2 := s2.1
      have sj := (s1.app s2).join
      refine ⟨⟨_, rfl⟩, .ref pw, rfl, .int kk, rfl, kk, 1, rfl, rfl, kk + 1, rfl, pw, _, rfl, SqL.of hpw, fun pa na => ?_⟩
      rw [ez1] at *
      have t1 := same_new (o := .lst (z1.map V.str)) na
      refine ⟨.ref pw, rfl, .int kk, rfl, kk, rfl, pw, _, rfl, SqL.of (t1 _ _ hpw), fun pb nb => ?_⟩
      rw [ez2] at *
      have t2 := same_new (o := .lst (z2.map V.str)) nb
      refine ⟨pa, pb, _, _, rfl, rfl, t2 _ _ upd_same, upd_same, sl_of (by rw [List.length_map, List.length_map]; omega), fun pc nc => ⟨blank, pc, z1 ++ z2, rfl, rfl, .inl (SqL.of (by rw [upd_same, List.map_append])), by omega, fin _ _ (by omega) (Same.trans t1 (Same.trans t2 (same_new nc)))⟩⟩
    -- 5
    refine ⟨.int way, rfl, rfl, _, rfl, ite2 (fun _ => ?_) (fun _ => ?_)⟩
    · obtain ⟨z1, ez1, s1⟩ := smy.cut none (some kk)
      obtain ⟨z2, ez2, s2⟩ := smy.cut (some (kk + 1)) none
      have l1 := s1.1
      have l2 := s2.1
      have sj := (s1.app s2).join
      refine ⟨⟨_, rfl⟩, .ref pw, rfl, .int kk, rfl, kk, rfl, pw, _, rfl, SqL.of hpw, fun pa na => ?_⟩
      rw [ez1] at *
      have t1 := same_new (o := .lst (z1.map V.str)) na
      refine ⟨.ref pw, rfl, .int kk, rfl, kk, 1, rfl, rfl, kk + 1, rfl, pw, _, rfl, SqL.of (t1 _ _ hpw), fun pb nb => ?_⟩
      rw [ez2] at *
      have t2 := same_new (o := .lst (z2.map V.str)) nb
      refine ⟨pa, pb, _, _, rfl, rfl, t2 _ _ upd_same, upd_same, sl_of (by rw [List.length_map, List.length_map]; omega), fun pc nc => ⟨blank, pc, z1 ++ z2, rfl, rfl, .inl (SqL.of (by rw [upd_same, List.map_append])), by omega, fin _ _ (by omega) (Same.trans t1 (Same.trans t2 (same_new nc)))⟩⟩
    -- what is odd
    have n9 := nine_len
    have n1 := one_len
    have nr := lR_len
    refine ⟨nineS, 9, rfl, rfl, nine_ok, lR, _, rfl, rfl, sl_of (by omega), oneS, 5000, rfl, rfl, one_ok, lR, _, rfl, rfl, sl_of (by omega), by show 12 ≤ sizeLine; decide, fun po no => ?_⟩
    have ol9 : (lR ++ Txt.mul nineS 9).length ≤ 5010 := by rw [cat_len]; omega
    have ol5 : (lR ++ Txt.mul oneS 5000).length ≤ 5010 := by rw [cat_len]; omega
    generalize lR ++ Txt.mul nineS 9 = o9 at ol9 ⊢
    generalize lR ++ Txt.mul oneS 5000 = o5 at ol5 ⊢
    obtain ⟨H5, hH5⟩ : ∃ X : Hp, upd H4 po (.lst ((oddL o9 o5).map V.str)) = X := ⟨_, rfl⟩
    have to_ : Same H4 H5 := by rw [← hH5]; exact same_new no
    have hpo : H5 po = some (.lst ((oddL o9 o5).map V.str)) := by rw [← hH5]; exact upd_same
    have npo : po ≠ st := W4.ne no
    have W5 := W4.same to_
    have hpw5 := to_ _ _ hpw
    have E5 : ExS st H H5 := E4.trans (.of to_)
    have hH5' : upd H4 po (.lst [V.str (Str.ofString "r0"), V.str (Str.ofString "w0"), V.str (Str.ofString "r00"), V.str (Str.ofString "r01"), V.str (Str.ofString "w-1"), V.str (Str.ofString "r+1"), V.str (Str.ofString "w100000000"), V.str (Str.ofString "w100000001"), V.str o9, V.str o5, V.str (Str.ofString "r"), V.str (Str.ofString "")]) = H5 := hH5
    rw [hH5']
    clear hH5 hH5' n1 n9
    have fin2 : ∀ (z' : Str) H', z'.length ≤ 90000 → Well st H' → ExS st H5 H' → Q (.str z') H' := fun z' H' hl W e => q (.str z') (.str z') H' (.str _) (fun z2 h2 => by cases h2; exact hl) rfl W (E5.trans e)
    refine ⟨.int way, rfl, way, 8, rfl, rfl, _, rfl, ite2 (fun _ => ?_) (fun _ => ?_)⟩
    · obtain ⟨z1, ez1, s1⟩ := smy.cut none (some kk)
      obtain ⟨z2, ez2, s2⟩ := smy.cut (some (kk + 1)) none
      have l1 := s1.1
      have l2 := s2.1
      refine ⟨⟨_, rfl⟩, .ref pw, rfl, .int kk, rfl, kk, rfl, pw, _, rfl, SqL.of hpw5, fun pa na => ?_⟩
      rw [ez1]
      have t1 := same_new (o := .lst (z1.map V.str)) na
      have npa : pa ≠ st := W5.ne na
      refine ⟨.ref po, rfl, .ref st, rfl, st, 12, rfl, W5.same t1, by decide, by decide, fun r H6 r0 r1 W6 e6 => ?_⟩
      obtain ⟨y, hy, ay⟩ := pick_str (xs := oddL o9 o5) r0 r1
      have hyl := odd_len ol9 ol5 hy
      refine ⟨po, _, r, .str y, rfl, rfl, SqL.of (e6 _ _ npo (t1 _ _ hpo)), ay, by show 1 ≤ sizeLine; decide, fun pd nd => ?_⟩
      have t2 := same_new (o := .lst [V.str y]) nd
      refine ⟨pa, pd, z1.map V.str, [.str y], rfl, rfl, t2 _ _ (e6 _ _ npa upd_same), upd_same, sl_of (by rw [List.length_map]; show z1.length + 1 ≤ _; omega), fun pe ne => ?_⟩
      have t3 := same_new (o := .lst (z1.map V.str ++ [.str y])) ne
      have t23 := Same.trans t2 t3
      refine ⟨.ref pw, rfl, .int kk, rfl, kk, 1, rfl, rfl, kk + 1, rfl, pw, _, rfl, SqL.of (t23 _ _ (e6 _ _ npst (t1 _ _ hpw5))), fun pb nb => ?_⟩
      rw [ez2]
      have t4 := same_new (o := .lst (z2.map V.str)) nb
      refine ⟨pe, pb, _, _, rfl, rfl, t4 _ _ upd_same, upd_same, sl_of (by rw [List.length_append, List.length_map, List.length_map]; show z1.length + 1 + z2.length ≤ _; omega), fun pc nc => ?_⟩
      have t5 := same_new (o := .lst ((z1.map V.str ++ [.str y]) ++ z2.map V.str)) nc
      have t25 := Same.trans t23 (Same.trans t4 t5)
      have hmz : mz ((z1 ++ [y]) ++ z2) ≤ 30000 := by
        rw [mz_app, mz_app]
        have m1 := s1.mz
        have m2 := s2.mz
        have m3 : mz [y] = y.length + 1 := rfl
        omega
      have hj := mz_join hmz
      refine ⟨blank, pc, (z1 ++ [y]) ++ z2, rfl, rfl, .inl (SqL.of (by rw [upd_same, List.map_append, List.map_append]; rfl)), by omega, fin2 _ _ (by omega) (W6.same t25) ((ExS.of t1).trans (e6.trans (.of t25)))⟩
    -- 8
    refine ⟨.int way, rfl, rfl, _, rfl, ite2 (fun _ => ?_) (fun _ => ?_)⟩
    · have nl1 : (Str.ofString "\n").length = 1 := by decide +kernel
      refine ⟨.str z, rfl, blank, z, rfl, rfl, sl_of (by omega), .str z, rfl, z, blank, rfl, rfl, sl_of (by omega), .str z, rfl, z, Str.ofString "\n", rfl, rfl, sl_of (by omega), .str z, rfl, z, blank, rfl, rfl, sl_of (by omega), .str z, rfl, _, z, rfl, rfl, ?_, by show 6 ≤ sizeLine; decide, fun pm nm => ?_⟩
      · rw [cat_len]
        exact sl_of (by omega)
      have tm := same_new (o := .lst (List.map V.str [blank ++ z, z ++ blank, z ++ Str.ofString "\n", Str.ofString "", blank, z ++ blank ++ z])) nm
      refine ⟨.ref st, rfl, st, 6, rfl, W5.same tm, by decide, by decide, fun r H6 r0 r1 W6 e6 => ?_⟩
      obtain ⟨y, hy, ay⟩ := pick_str (xs := [blank ++ z, z ++ blank, z ++ Str.ofString "\n", Str.ofString "", blank, z ++ blank ++ z]) r0 r1
      have hyl : y.length ≤ 300 := by
        simp only [List.mem_cons, List.not_mem_nil, or_false] at hy
        have he : (Str.ofString "").length = 0 := by decide +kernel
        rcases hy with rfl | rfl | rfl | rfl | rfl | rfl
        all_goals (try rw [cat_len]); (try rw [cat_len]); omega
      exact ⟨pm, _, r, .str y, rfl, rfl, SqL.of (e6 _ _ (W5.ne nm) upd_same), ay, fin2 _ _ (by omega) W6 ((ExS.of tm).trans e6)⟩
    · refine ⟨.str z, rfl, by show 1 ≤ sizeLine; decide, fun pa na => ?_⟩
      have t1 := same_new (o := .lst [.str z]) na
      refine ⟨.ref pw, rfl, pw, _, rfl, .inl ⟨SqL.of (t1 _ _ hpw5), fun pt nt => ?_⟩⟩
      have t2 := same_new (o := .tup (ys.map V.str)) nt
      intro pd nd
      have t3 := same_new (o := .dK []) nd
      refine ⟨by show 6 ≤ sizeLine; decide, fun pm nm => ?_⟩
      have t4 := same_new (o := .lst [.non, .int 5, .ref pa, .ref pt, .bl true, .ref pd]) nm
      have X1 := W5.same t1
      have X2 := X1.same t2
      have X3 := X2.same t3
      have X4 := X3.same t4
      refine ⟨.ref st, rfl, st, 6, rfl, X4, by decide, by decide, fun r H6 r0 r1 W6 e6 => ?_⟩
      have tys : ∀ (l : List Str) (G : Hp), TDs st G (l.map V.str) (l.map D.str) := fun l G => by
        induction l with
        | nil => exact .nil
        | cons a l ih => exact .cons (.str _) ih
      have tl6 := TDs.mono e6 (TDs.cons TD.non (TDs.cons (TD.int 5) (TDs.cons (TD.lst (W5.ne na) (t4 _ _ (t3 _ _ (t2 _ _ upd_same))) (.cons (.str z) .nil)) (TDs.cons (TD.tup (X1.ne nt) (t4 _ _ (t3 _ _ upd_same)) (tys ys _)) (TDs.cons (TD.bl true) (TDs.cons (TD.dct (X2.ne nd) (t4 _ _ upd_same)) .nil))))))
      obtain ⟨y, dy, ay, ty, my⟩ := tl6.pickIn r0 r1
      refine ⟨pm, _, r, y, rfl, rfl, SqL.of (e6 _ _ (X3.ne nm) upd_same), ay, q y dy H6 ty (fun z' h => ?_) ?_ W6 (E5.trans ((ExS.of (Same.trans t1 (Same.trans t2 (Same.trans t3 t4)))).trans e6))⟩
      · simp only [List.mem_cons, List.not_mem_nil, or_false] at my
        rcases my with rfl | rfl | rfl | rfl | rfl | rfl <;> cases h
      · simp only [List.mem_cons, List.not_mem_nil, or_false] at my
        rcases my with rfl | rfl | rfl | rfl | rfl | rfl
        · rfl
        · rfl
        · rfl
        · refine isDealing_noStep (i := 0) (d := .str ys[0]) ?_ rfl
          rw [List.getElem?_map, List.getElem?_eq_getElem hy1]
          rfl
        · rfl
        · rfl
end
end As

namespace As
open PySem PySem.Spec PyProof.Rows L2
abbrev sWord : Stmt := topS 33
abbrev nWord : List Str := ["_law_ask", "_law_found", "e", "_law_kinds"]
theorem scWord : FnScope nWord ["_law_ask"] (defScope sWord) := ⟨rfl, rfl, rfl, by decide +kernel, rfl, by decide +kernel, by decide +kernel⟩
/-- the classes of errors as word asks them -/
structure Tl (K : PySem.W.Frag) (mg : Str → Option Value) (CA CT CD CS : Addr) : Prop where
  gA : mg "AloneError" = some (.ref CA)
  gT : mg "NoText" = some (.ref CT)
  gD : mg "NoDealing" = some (.ref CD)
  gS : mg "NoDealings" = some (.ref CS)
structure Ki (K : PySem.W.Frag) (C CA CT CD CS : Addr) (bT bD : Bool) : Prop where
  eA : PySem.W.exmOne K (.ref C) (.ref CA) = some true
  eC : ExcC K C
  iT : PySem.W.kitOne K (.ref C) (.ref CT) = some bT
  iD : PySem.W.kitOne K (.ref C) (.ref CD) = some bD
  iS : PySem.W.kitOne K (.ref C) (.ref CS) = some false
def refS : Str := "refused"
def toldS : Str := "told"
def pRef (bT bD : Bool) (H : Hp) (Q : VK) : Prop := ∀ p kp H', Same H H' → H' p = some (.tup [.str refS, .ref kp]) → H' kp = some (.lst [.bl bT, .bl bD, .bl false]) → Q (.ref p) H'
def ErrK (CT CD : Addr) (Q : VK) : XK := fun cls d H' => d = none ∧ (cls = .ref CT ∧ pRef true false H' Q ∨ cls = .ref CD ∧ pRef false true H' Q)
def TTo (CT CD : Addr) : (XK → Hp → VK → Prop) → Hp → VK → Prop := fun tl H Q => tl (ErrK CT CD Q) H (fun v H1 => [V.str toldS, v].length ≤ sizeLine ∧ ∀ p, H1 p = none → Q (.ref p) (upd H1 p (.tup [.str toldS, v])))
theorem ErrK.mono {CT CD : Addr} {Q Q' : VK} (h : ∀ v H, Q v H → Q' v H) {cls : Value} {d : Option Addr} {H : Hp} (e : ErrK CT CD Q cls d H) : ErrK CT CD Q' cls d H := by
  obtain ⟨h1, h2⟩ := e
  refine ⟨h1, ?_⟩
  rcases h2 with ⟨h2, h3⟩ | ⟨h2, h3⟩
  · exact .inl ⟨h2, fun p kp H' e a b => h _ _ (h3 p kp H' e a b)⟩
  · exact .inr ⟨h2, fun p kp H' e a b => h _ _ (h3 p kp H' e a b)⟩
theorem word_gives {X : Cx} {CA CT CD CS : Addr} (T : Tl X.K X.mg CA CT CD CS) (KT : Ki X.K CT CA CT CD CS true false) (KD : Ki X.K CD CA CT CD CS false true) (M : Mg X.mg) {g : Addr} {cdg : Value} {q : Str} :
    LamX.GivesTo X nWord "_law_word" (defScope sWord) g cdg (defBody sWord) "_law_ask" q (TTo CT CD) := by
  intro f c' s H Q tl act hc h
  refine ⟨_, pss_cons (ps_set (i := 1) scWord.nd rfl (.inl rfl) pe_non)
    (pss_cons (ps_try_as (i := 2) (c := .ref CA)
      (tb := fun W D σ H => ∃ Ech : XK, (∀ cls d σ' H', Ech cls d H' → W cls d σ' H') ∧ σ[0]? = some (some (.ref f)) ∧ H c' = some (LamX.CodeO c' q) ∧ tl Ech H (fun v H1 => [V.str toldS, v].length ≤ sizeLine ∧ ∀ p, H1 p = none → D.nx (σ.set 1 (some (.ref p))) (upd H1 p (.tup [.str toldS, v]))))
      (ts := fun a cls d D σ H => ErrK CT CD (fun v H' => ∀ σ2, (σ2.length = 4 → σ2[1]? = some (some v)) → D.nx σ2 H') cls d H ∧ (σ.length = 4 → σ[2]? = some (some (.ref a))))
      rfl rfl scWord.nd rfl rfl ⟨by rfl, by decide, .inl T.gA⟩ LamX.takes0 (fun W pn xe tk _ => ?_) (fun a oe cls d pn hz hf => ?_))
    (pss_one (show PS _ _ (fun D σ H => ∃ v, (σ.length = 4 → σ[1]? = some (some v)) ∧ D.rt v H) from ?_))), ?_⟩
  · refine ⟨fun pins s' σ H' D I h' => ?_⟩
    obtain ⟨Ech, hW, h1, h2, h3⟩ := h'
    exact (pss_one (ps_set (i := 1) scWord.nd rfl (.inl rfl) (pe_tup (pa_cons pe_str (pa_cons (act W pn xe Ech _ _ tk hW) pa_nil))))).run pins s' σ H' D I ⟨h1, h2, h3⟩
  · refine ⟨fun pins s' σ H' D I h' => ?_⟩
    obtain ⟨h1, h2⟩ := h'
    have hlen : σ.length = 4 := I.len
    have hs2 := h2 hlen
    obtain ⟨C, bT, bD, KI, hz, hd⟩ : ∃ (C : Addr) (bT bD : Bool), Ki X.K C CA CT CD CS bT bD ∧ Zc (.ref C) none oe ∧ pRef bT bD H' (fun v H' => ∀ σ2, (σ2.length = 4 → σ2[1]? = some (some v)) → D.nx σ2 H') := by
      obtain ⟨rfl, h1 | h1⟩ := h1
      · obtain ⟨rfl, hd⟩ := h1
        exact ⟨CT, true, false, KT, hz, hd⟩
      · obtain ⟨rfl, hd⟩ := h1
        exact ⟨CD, false, true, KD, hz, hd⟩
    have isE := call_isE (X := (cxOf C8.CX0 X.prog X.w X.K X.mg X.base nWord "_law_word" (defScope sWord) g cdg X.A X.stack s H C8.E0).nox) (a := a) (pn := pn) (D := C) KI.eC hz hf
    refine (pss_cons (ps_set (i := 3) scWord.nd rfl (.inl rfl) (pe_lst (pa_cons (pe_callB isE (by rfl) M.isinstance (by decide +kernel) (pa_cons (pv 2) (pa_cons (pe_glob (v := .ref CT) (by rfl) T.gT rfl) pa_nil)))
        (pa_cons (pe_callB isE (by rfl) M.isinstance (by decide +kernel) (pa_cons (pv 2) (pa_cons (pe_glob (v := .ref CD) (by rfl) T.gD rfl) pa_nil)))
        (pa_cons (pe_callB isE (by rfl) M.isinstance (by decide +kernel) (pa_cons (pv 2) (pa_cons (pe_glob (v := .ref CS) (by rfl) T.gS rfl) pa_nil))) pa_nil)))))
      (pss_one (ps_set (i := 1) scWord.nd rfl (.inl rfl) (pe_tup (pa_cons pe_str (pa_cons (pv 3) pa_nil)))))).run pins s' σ H' D I ?_
    match σ, hlen, hs2 with
    | [x0, x1, x2, x3], _, hs2 =>
    have hs2' : x2 = some (.ref a) := Option.some.inj hs2
    subst hs2'
    refine ⟨.ref a, rfl, .ref CT, .ref CT, bT, rfl, fun u r => r, KI.iT, .ref a, rfl, .ref CD, .ref CD, bD, rfl, fun u r => r, KI.iD, .ref a, rfl, .ref CS, .ref CS, false, rfl, fun u r => r, KI.iS, by show 3 ≤ sizeLine; decide, fun pm npm => ?_⟩
    have s1 := same_new (o := .lst [.bl bT, .bl bD, .bl false]) npm
    refine ⟨.ref pm, rfl, by show 2 ≤ sizeLine; decide, fun pt npt => ?_⟩
    have s2 := same_new (o := .tup [.str refS, .ref pm]) npt
    exact hd pt pm _ (Same.trans s1 s2) upd_same (s2 _ _ upd_same) _ (fun _ => rfl)
  · refine ⟨fun pins s' σ H' D I h' => ?_⟩
    obtain ⟨v, h1, h2⟩ := h'
    exact (ps_ret (pv 1)).run pins s' σ H' D I ⟨v, h1 I.len, h2⟩
  · refine ⟨ErrK CT CD Q, fun cls d σ' H' hE => ?_, rfl, hc, ?_⟩
    · have hb : PySem.W.exmOne X.K cls (.ref CA) = some true := by
        obtain ⟨rfl, h1 | h1⟩ := hE
        · rw [h1.1]; exact KT.eA
        · rw [h1.1]; exact KD.eA
      refine ⟨true, hb, fun _ a na => ⟨hE.mono fun v H2 hq σ2 h2 => ⟨v, fun hl => (List.getElem?_set_ne (by decide)).trans (h2 (by rw [List.length_set] at hl; exact hl)), hq⟩, fun hl => ?_⟩, fun z => absurd z.symm Bool.false_ne_true⟩
      rw [List.length_set] at hl
      exact List.getElem?_set_self (by omega)
    · refine Eq.mp (congrArg (tl (ErrK CT CD Q) H) (funext fun v => funext fun H1 => propext ⟨fun hq => ?_, fun hq => ?_⟩)) h
      · exact ⟨hq.1, fun p np => ⟨.ref p, fun _ => rfl, hq.2 p np⟩⟩
      · refine ⟨hq.1, fun p np => ?_⟩
        obtain ⟨v', h1, h2⟩ := hq.2 p np
        have h3 := h1 rfl
        have h4 : V.ref p = v' := Option.some.inj (Option.some.inj h3)
        subst h4
        exact h2
end As

namespace As
open PySem PySem.Spec PyProof.Rows L2 TL NumText
abbrev sLaw : Stmt := topS 34
abbrev nLaw : List Str := ["_law_script", "_law_k", "_law_state", "_law_dealing_here", "_law_due", "_law_found", "_law_odd", "_law_text_here"]
theorem scLaw : FnScope nLaw ["_law_script"] (defScope sLaw) := ⟨rfl, rfl, rfl, by decide +kernel, rfl, by decide +kernel, by decide +kernel⟩
/-! ### heaps, but for the tables of code objects -/
theorem TD.monoN {st : Addr} {H H' : Hp} (e : LamX.ExtN H H') {v : V} {d : D} (h : TD st H v d) : TD st H' v d := by
  refine TD.rec (motive_1 := fun v d _ => TD st H' v d) (motive_2 := fun vs ds _ => TDs st H' vs ds) ?_ ?_ ?_ ?_ ?_ ?_ ?_ ?_ ?_ h
  · exact .non
  · exact fun b => .bl b
  · exact fun i => .int i
  · exact fun z => .str z
  · exact fun n h _ t => .tup n (e _ _ h fun _ z => nomatch z) t
  · exact fun n h _ t => .lst n (e _ _ h fun _ z => nomatch z) t
  · exact fun n h => .dct n (e _ _ h fun _ z => nomatch z)
  · exact .nil
  · exact fun _ _ h t => .cons h t
theorem sqN {K : PySem.W.Frag} {H H' : Hp} {a : Addr} {xs : List V} (e : LamX.ExtN H H') (h : SqL K H a xs) : SqL K H' a xs := by
  rcases h with (h | ⟨o, h⟩) | h
  · exact .inl (.inl (e _ _ h fun _ z => nomatch z))
  · exact .inl (.inr ⟨o, e _ _ h fun _ z => nomatch z⟩)
  · exact .inr h
/-- p is none of what H knows, but for tables -/
def Nn (H : Hp) (p : Addr) : Prop := ∀ b o, H b = some o → (∀ ps, o ≠ .tbl ps) → b ≠ p
theorem nn_of {H H' : Hp} {p : Addr} (e : LamX.ExtN H H') (h : H' p = none) : Nn H p := fun b o hb n => ne_of_none (e b o hb n) h
theorem extN_upd {H H' : Hp} {p : Addr} {o : HO} (n : Nn H p) (e : LamX.ExtN H H') : LamX.ExtN H (upd H' p o) := fun b u hb hn => by
  rw [upd_ne (n b u hb hn)]
  exact e b u hb hn
theorem extN_same {H H1 H2 : Hp} (e : LamX.ExtN H H1) (s : Same H1 H2) : LamX.ExtN H H2 := e.trans (.of s)
theorem tabs_upd {T : List (Addr × Str)} {H : Hp} {p : Addr} {xs ys : List V} (h : H p = some (.lst xs)) (t : LamX.Tabs T H) : LamX.Tabs T (upd H p (.lst ys)) := fun q hq => by
  obtain ⟨ps, h1, h2, h3⟩ := t q hq
  have keep : ∀ b o, H b = some o → (∀ zs, o ≠ .lst zs) → (upd H p (.lst ys)) b = some o := fun b o hb n => by
    rw [upd_ne (fun z => by
      rw [z, h] at hb
      exact n _ (Option.some.inj hb).symm)]
    exact hb
  refine ⟨ps, keep _ _ h1 fun _ z => (nomatch z), h2, fun pos cv hc => ?_⟩
  obtain ⟨c, e1, e2⟩ := h3 pos cv hc
  exact ⟨c, e1, keep _ _ e2 fun zs z => by
    unfold LamX.CodeO at z
    cases z⟩
theorem tabs_well {T : List (Addr × Str)} {H H' : Hp} {st : Addr} (W : Well st H) (e : ExS st H H') (t : LamX.Tabs T H) : LamX.Tabs T H' := fun q hq => by
  obtain ⟨ps, h1, h2, h3⟩ := t q hq
  have keep : ∀ b o, H b = some o → (∀ zs, o ≠ .lst zs) → H' b = some o := fun b o hb n => e b o (fun z => by
    rcases W with ⟨c, h⟩ | ⟨a, b', c, h⟩
    · rw [z, h] at hb
      exact n _ (Option.some.inj hb).symm
    · rw [z, h] at hb
      exact n _ (Option.some.inj hb).symm) hb
  refine ⟨ps, keep _ _ h1 fun _ z => (nomatch z), h2, fun pos cv hc => ?_⟩
  obtain ⟨c, e1, e2⟩ := h3 pos cv hc
  exact ⟨c, e1, keep _ _ e2 fun zs z => by
    unfold LamX.CodeO at z
    cases z⟩
theorem steps_inj : ∀ {l m : List Pr}, l.map stepD = m.map stepD → l = m
  | [], [], _ => rfl
  | [], _ :: _, h => by cases h
  | _ :: _, [], h => by cases h
  | p :: l, q :: m, h => by
    have h1 : stepD p = stepD q := (List.cons.inj h).1
    have h2 := steps_inj (List.cons.inj h).2
    unfold stepD at h1
    have h3 := D.tup.inj h1
    have h4 : p.1 = q.1 := D.str.inj (List.cons.inj h3).1
    have h5 : p.2 = q.2 := D.int.inj (List.cons.inj (List.cons.inj h3).2).1
    rw [h2, show p = q from Prod.ext h4 h5]
theorem dealing_is {l : List Pr} (ok : StepsOk l) (h1 : 1 ≤ l.length) (h8 : l.length ≤ 8) (hf : follow mayP l = true) : isDealing (.tup (l.map stepD)) = true := by
  rw [isDealing_eq, prs_of ok, List.length_map, decide_eq_true h1, decide_eq_true h8]
  exact hf
theorem sq_keep {K : PySem.W.Frag} {st a : Addr} {H H' : Hp} {o : HO} {xs : List V} (h : SqL K H a xs) (n : H st = none) (e : ExS st (upd H st o) H') : SqL K H' a xs := by
  rcases h with (h | ⟨u, h⟩) | h
  · have na : a ≠ st := ne_of_none h n
    exact .inl (.inl (e _ _ na (by rw [upd_ne na]; exact h)))
  · have na : a ≠ st := ne_of_none h n
    exact .inl (.inr ⟨u, e _ _ na (by rw [upd_ne na]; exact h)⟩)
  · exact .inr h
/-- a def as its callers need it -/
structure Ok (P : Program) (w : World) (K : PySem.W.Frag) (mg : Str → Option Value) (base : Heap) (CX : CXT) (k : Nat) (x : Str) (ps : List Str) (sp : Sp) : Prop where
  ex : ∃ f fd, FnOk P w K mg base CX k f fd ps sp ∧ mg x = some (.ref f) ∧ PySem.W.keepIn K (.ref f) = true ∧ Binds K fd ps []
theorem Well.extN {st : Addr} {H H' : Hp} (e : LamX.ExtN H H') (h : Well st H) : Well st H' := by
  rcases h with ⟨c, h⟩ | ⟨a, b, c, h⟩
  · exact .inl ⟨c, e _ _ h fun _ z => nomatch z⟩
  · exact .inr ⟨a, b, c, e _ _ h fun _ z => nomatch z⟩
theorem Well.some {st : Addr} {H : Hp} (h : Well st H) : H st ≠ none := by
  rcases h with ⟨c, h⟩ | ⟨a, b, c, h⟩
  · rw [h]; exact fun z => nomatch z
  · rw [h]; exact fun z => nomatch z
/-! ### what is read -/
def lrD : D → Option (List Pr)
  | .str z => lr (splW z) []
  | _ => none
theorem lread_of {st : Addr} {v : V} {d : D} {H : Hp} {Q : VK} {E : XK} (td : TD st H v d) (hl : ∀ z, d = .str z → z.length ≤ 90000) (h1 : lrD d = none → ∀ H', Same H H' → Q .non H') (h2 : ∀ l, lrD d = some l → ∀ c H', (∀ st, H st ≠ none → TD st H' (.ref c) (.tup (l.map stepD))) → Same H H' → Q (.ref c) H') : spLread [v] H Q E := by
  refine ⟨st, v, d, rfl, td, fun z e => ?_, fun h => h1 ?_⟩
  · subst e
    exact ⟨hl z rfl, h1, h2⟩
  · cases d with
    | str z => exact absurd rfl (h z)
    | _ => rfl
theorem read_of {CT st : Addr} {v : V} {d : D} {H : Hp} {Q : VK} {E : XK} (td : TD st H v d) (hl : ∀ z, d = .str z → z.length ≤ 90000) (h1 : lrD d = none → ∀ H', Same H H' → E (.ref CT) none H') (h2 : ∀ l, lrD d = some l → okL l → d = .str (txt l) → ∀ c H', (∀ st, H st ≠ none → TD st H' (.ref c) (.tup (l.map stepD))) → Same H H' → Q (.ref c) H') : spRead CT [v] H Q E := by
  refine ⟨st, v, d, rfl, td, fun z e => ?_, fun h => h1 ?_⟩
  · subst e
    refine ⟨hl z rfl, fun l ok er c H' tc s => ?_, fun hd => h1 ?_⟩
    · cases hr : lr (splW z) [] with
      | none =>
        have := read_no hr
        rw [er, okL_deal ok] at this
        cases this
      | some m =>
        obtain ⟨e1, e2, e3⟩ := read_yes hr
        have em : l = m := steps_inj (D.tup.inj (er.symm.trans e1))
        subst em
        exact h2 l hr ok (by rw [e3]) c H' tc s
    · cases hr : lr (splW z) [] with
      | none => exact hr
      | some m =>
        obtain ⟨e1, e2, e3⟩ := read_yes hr
        rw [e1, okL_deal e2] at hd
        cases hd
  · cases d with
    | str z => exact absurd rfl (h z)
    | _ => rfl
theorem lr_txt {l : List Pr} (ok : okL l) : lrD (.str (txt l)) = some l := by
  show lr (splW (txt l)) [] = some l
  cases hr : lr (splW (txt l)) [] with
  | none =>
    have := read_no hr
    rw [rd_txt ok, okL_deal ok] at this
    cases this
  | some m =>
    obtain ⟨e1, e2, e3⟩ := read_yes hr
    rw [rd_txt ok] at e1
    rw [steps_inj (D.tup.inj e1)]
theorem txt_len {l : List Pr} (ok : okL l) : (txt l).length ≤ 100 := by
  rw [← join_txt]
  have h : mz ((l.map wrW).map SX.S) ≤ 88 := by
    have : Sm 8 10 ((l.map wrW).map SX.S) := by
      refine ⟨by rw [List.length_map, List.length_map]; exact ok.2.2.1, fun y hy => ?_⟩
      obtain ⟨w, hw, rfl⟩ := List.mem_map.mp hy
      obtain ⟨p, hp, rfl⟩ := List.mem_map.mp hw
      rw [SX.S_len]
      exact wr_len (ok.1 p hp).2
    have := this.mz
    omega
  have := (mz_join h).2
  omega
/-! ### the first step once more -/
theorem no_more {l : List Pr} (ok : okL l) : isDealing (.tup (l.map stepD ++ (l.take 1).map stepD)) = false := by
  have h1 := ok.2.1
  have e : l.map stepD ++ (l.take 1).map stepD = (l ++ l.take 1).map stepD := (List.map_append ..).symm
  have hp : prs ((l ++ l.take 1).map stepD) = some (l ++ l.take 1) := prs_of fun p hp => (List.mem_append.mp hp).elim (ok.1 p) (fun h => ok.1 p (List.mem_of_mem_take h))
  rw [e, isDealing_eq, hp]
  have hl : (l ++ l.take 1)[l.length]? = some l[0] := by
    rw [List.getElem?_append_right (Nat.le_refl _), Nat.sub_self, List.getElem?_take_of_lt (by decide), List.getElem?_eq_getElem]
  have hf : follow mayP (l ++ l.take 1) = false := follow_not hl (by
    unfold mayP
    rw [List.take_append_of_le_length (Nat.le_refl _), List.take_of_length_le (Nat.le_refl _), decide_eq_true (List.getElem_mem (show 0 < l.length by omega))]
    rfl)
  show (_ && follow mayP (l ++ l.take 1)) = false
  rw [hf, Bool.and_false]
theorem sl1_ok {K : PySem.W.Frag} {st a : Addr} {H : Hp} {l : List Pr} {Q : VK} (W : Well st H) (ta : TD st H (.ref a) (.tup (l.map stepD))) (h1 : 1 ≤ l.length)
    (q : ∀ c H', TD st H' (.ref c) (.tup ((l.take 1).map stepD)) → Same H H' → Q (.ref c) H') : rSlA K (.ref a) none (some 1) H Q := by
  cases ta with
  | @tup a xs _ na ha t1 =>
    have l1 : xs.length = l.length := by rw [t1.length, List.length_map]
    refine ⟨a, xs, rfl, SqT.of ha, fun hw => ?_, fun _ p np => ?_⟩
    · have hx : l.length ≤ 1 := by
        have e1 : HT.sIx xs.length xs.length (some ((1 : Nat) : Int)) = min 1 xs.length := HT.sIx_nat ..
        have := hw.2
        have e2 : HT.sIx xs.length xs.length (some 1) = min 1 xs.length := e1
        rw [e2] at this
        omega
      refine q a H ?_ (Same.refl H)
      rw [List.take_of_length_le hx]
      exact .tup na ha t1
    · have ec : cutV xs none (some 1) = xs.take 1 := cut_to xs 1
      refine q p _ (.tup (W.ne np) (by rw [upd_same, ec]) ?_) (same_new np)
      rw [List.map_take]
      exact (t1.take 1).mono (ExS.new np)
/-! ### data beside data -/
def refP (a b : Bool) : PyData := .tuple [.str refS, .list [.bool a, .bool b, .bool false]]
theorem refP_shaped (a b : Bool) : SeqAt.shaped (refP a b) = true := by cases a <;> cases b <;> decide +kernel
theorem refP_eqv (a b : Bool) : PyData.eqv (refP a b) (refP a b) = true := by cases a <;> cases b <;> decide +kernel
theorem refP_dp {K : PySem.W.Frag} {H : Hp} {p kp : Addr} {a b : Bool} (h : H p = some (.tup [.str refS, .ref kp])) (h2 : H kp = some (.lst [.bl a, .bl b, .bl false])) : Dp K H (.ref p) (refP a b) :=
  .tup (SqT.of h) (.cons (.str _) (.cons (.lst (SqL.of h2) (.cons (.bl _) (.cons (.bl _) (.cons (.bl _) .nil)))) .nil))
def toldP (l : List Pr) : PyData := .tuple [.str toldS, .tuple (l.map stepP)]
theorem toldP_lay {l : List Pr} (hw : ∀ p ∈ l, wordB p.1 = true) : (toldP l).canLay0 = true := by
  have h : PyData.strOk toldS = true := by decide +kernel
  simp only [toldP, PyData.canLay0, PyData.canLayAll0, h, stepPs_lay hw, Bool.and_self]
theorem toldP_shaped {l : List Pr} (hw : ∀ p ∈ l, wordB p.1 = true) : SeqAt.shaped (toldP l) = true := by
  have h1 := stepPs_depth l
  have h2 : PyData.depth (toldP l) ≤ 64 := by
    simp only [toldP, PyData.depth, PyData.depthAll]
    omega
  show ((toldP l).canLay0 && decide (PyData.depth (toldP l) ≤ 64)) = true
  rw [Bool.and_eq_true]
  exact ⟨toldP_lay hw, decide_eq_true h2⟩
theorem toldP_dp {K : PySem.W.Frag} {H : Hp} {st p c : Addr} {l : List Pr} (h : H p = some (.tup [.str toldS, .ref c])) (t : TD st H (.ref c) (.tup (l.map stepD))) : Dp K H (.ref p) (toldP l) := by
  cases t with
  | tup _ hc ts => exact .tup (SqT.of h) (.cons (.str _) (.cons (.tup (SqT.of hc) ts.stepsDp) .nil))
theorem deal_dp {K : PySem.W.Frag} {H : Hp} {st c : Addr} {l : List Pr} (t : TD st H (.ref c) (.tup (l.map stepD))) : Dp K H (.ref c) (.tuple (l.map stepP)) := by
  cases t with
  | tup _ hc ts => exact .tup (SqT.of hc) ts.stepsDp
/-! ### what stays -/
structure Bs (K : PySem.W.Frag) (T : List (Addr × Str)) (st a a3 : Addr) (ns : List Int) (l : List Pr) (v : V) (d : D) (H : Hp) : Prop where
  td : TD st H (.ref a3) (.tup (l.map stepD))
  tv : TD st H v d
  W : Well st H
  tb : LamX.Tabs T H
  sq : SqL K H a (ns.map V.int)
section
variable {K : PySem.W.Frag} {T : List (Addr × Str)} {st a a3 : Addr} {ns : List Int} {l : List Pr} {v : V} {d : D} {H H' : Hp}
theorem Bs.same (h : Bs K T st a a3 ns l v d H) (s : Same H H') : Bs K T st a a3 ns l v d H' := ⟨h.td.mono (.of s), h.tv.mono (.of s), h.W.same s, h.tb.ext s, s.seq h.sq⟩
theorem Bs.extN (h : Bs K T st a a3 ns l v d H) (n : LamX.ExtN H H') (t : LamX.Tabs T H') : Bs K T st a a3 ns l v d H' := ⟨h.td.monoN n, h.tv.monoN n, h.W.extN n, t, sqN n h.sq⟩
theorem sq_ex (hna : a ≠ st ∨ ∀ G, SqL K G a (ns.map V.int)) (h : SqL K H a (ns.map V.int)) (e : ExS st H H') : SqL K H' a (ns.map V.int) := by
  rcases hna with na | hk
  · rcases h with (h | ⟨u, h⟩) | h
    · exact .inl (.inl (e _ _ na h))
    · exact .inl (.inr ⟨u, e _ _ na h⟩)
    · exact .inr h
  · exact hk _
theorem sq_no (h : SqL K H a (ns.map V.int)) (n : H st = none) : a ≠ st ∨ ∀ G, SqL K G a (ns.map V.int) := by
  rcases h with (h | ⟨u, h⟩) | h
  · exact .inl (ne_of_none h n)
  · exact .inl (ne_of_none h n)
  · exact .inr fun G => .inr h
end
def spLread2 : Sp := fun vs H Q _ => ∃ st v d, vs = [v] ∧ TD st H v d ∧ (∀ z, d = .str z → z.length ≤ 90000) ∧ (lrD d = none → ∀ H', Same H H' → Q .non H') ∧ (∀ l, lrD d = some l → ∀ c H', (∀ st, H st ≠ none → TD st H' (.ref c) (.tup (l.map stepD))) → Same H H' → Q (.ref c) H')
theorem lread2_imp (vs : List V) (H : Hp) (Q : VK) (E : XK) (h : spLread2 vs H Q E) : spLread vs H Q E := by
  obtain ⟨st, v, d, rfl, td, hl, h1, h2⟩ := h
  exact lread_of td hl h1 h2
def spRead2 (CT : Addr) : Sp := fun vs H Q E => ∃ st v d, vs = [v] ∧ TD st H v d ∧ (∀ z, d = .str z → z.length ≤ 90000) ∧ (lrD d = none → ∀ H', Same H H' → E (.ref CT) none H') ∧ (∀ l, lrD d = some l → okL l → d = .str (txt l) → ∀ c H', (∀ st, H st ≠ none → TD st H' (.ref c) (.tup (l.map stepD))) → Same H H' → Q (.ref c) H')
theorem read2_imp {CT : Addr} (vs : List V) (H : Hp) (Q : VK) (E : XK) (h : spRead2 CT vs H Q E) : spRead CT vs H Q E := by
  obtain ⟨st, v, d, rfl, td, hl, h1, h2⟩ := h
  exact read_of td hl h1 h2
section
variable {P : Program} {w : World} {K : PySem.W.Frag} {mg : Str → Option Value} {base : Heap} {CA CD CS CT : Addr}
abbrev tabsOf (pL : Addr) : List (Addr × Str) := [(pL, Str.ofString "law" ++ ".<locals>." ++ "<lambda>")]
def spLaw (K : PySem.W.Frag) (pL : Addr) : Sp := fun vs H Q _ => ∃ (a : Addr) (ns : List Int), vs = [.ref a] ∧ SqL K H a (ns.map V.int) ∧ ns.length ≤ 63 ∧ LamX.Tabs (tabsOf pL) H ∧ ∀ H', Q (.bl true) H'
theorem ok_law {f fR cL pL : Addr} {fdR : FuncData} {k : Nat} {oc kV doc pm ct : Value} {an od : Option Addr} {osl : Array (Option Value)} (lk : K.lookup f = some ⟨oc, od, .func (PySem.W.fnOf "law" "law" (defArgs sLaw) (defBody sLaw) (defScope sLaw) .none kV doc pm an (.ref cL) ct), osl⟩) (hcd : PySem.W.codeIn K (.ref cL) "law" = true)
    (FR : Fun K "_law_word" "_law_word" sWord fR fdR) (gR : mg "_law_word" = some (.ref fR)) (bR' : Binds K fdR ["_law_ask"] []) (TB : LamX.TabB base mg cL pL) (M : Mg mg) (T : Tl K mg CA CT CD CS) (KT : Ki K CT CA CT CD CS true false) (KD : Ki K CD CA CT CD CS false true)
    (Kcell : ∀ k, Ok P w K mg base CX0 (k + 1) "_law_cell_at" ["_law_script", "_law_k"] (spCellAt K)) (Kdig : ∀ k, Ok P w K mg base CX0 (k + 1) "_law_digit" ["_law_state", "_law_base"] spDigit) (Kdeal : Ok P w K mg base CX0 (k + 2) "_law_dealing" ["_law_state", "_law_few", "_law_most"] spDealing)
    (Ktext : Ok P w K mg base CX0 (k + 2) "_law_text" ["_law_dealing_here"] spLtext) (Kspoilt : Ok P w K mg base CX0 (k + 2) "_law_spoilt" ["_law_state", "_law_text_here"] spSpoilt) (Kread : Ok P w K mg base CX0 (k + 2) "_law_read" ["_law_text_here"] spLread)
    (Kdt : Ok P w K mg base (L2.CX P w) k "dealing_text" ["dealing"] (spText CD)) (Krd : Ok P w K mg base (L2.CX P w) k "read_dealing" ["text"] (spRead CT)) :
    FnOk P w K mg base CX0 (k + 3) f (PySem.W.fnOf "law" "law" (defArgs sLaw) (defBody sLaw) (defScope sLaw) .none kV doc pm an (.ref cL) ct) ["_law_script"] (spLaw K pL) := by
  obtain ⟨f1, fd1, G1, g1, k1, b1⟩ := (Kcell (k + 1)).ex
  obtain ⟨f2, fd2, G2, g2, k2, b2⟩ := (Kdig (k + 1)).ex
  obtain ⟨f3, fd3, G3, g3, k3, b3⟩ := Kdeal.ex
  obtain ⟨f4, fd4, G4, g4, k4, b4⟩ := Ktext.ex
  obtain ⟨f5, fd5, G5, g5, k5, b5⟩ := Kspoilt.ex
  obtain ⟨f6, fd6, G6', g6, k6, b6⟩ := Kread.ex
  have G6 := G6'.imp lread2_imp
  obtain ⟨fT, fdT, GT, gT, kT, bT⟩ := Kdt.ex
  obtain ⟨fQ, fdQ, GQ', gQ, kQ, bQ⟩ := Krd.ex
  have GQ := GQ'.imp read2_imp
  obtain ⟨ocR, odR, kVR, docR, pmR, anR, cdR, ctR, oslR, rfl, lkR, hcR⟩ := FR.ex
  have kR := FR.kp
  have bR := bR'
  refine fn_of lk hcd scLaw (fun vs H Q E h => ?_) (fun A outer s H vs Q E hr h => ?_)
  · obtain ⟨a, ns, rfl, _⟩ := h
    rfl
  · obtain ⟨a, ns, rfl, hS, hlen, tabs, q⟩ := h
    have hr9 := hr
    let Tb := tabsOf pL
    suffices hx : ∃ t, PSs (cxOf CX0 P w K mg base nLaw "law" (defScope sLaw) f (.ref cL) A outer s H E).nox (defBody sLaw) t ∧ t { nx := fun _ H' => Q .non H', rt := Q } (start nLaw [.ref a]) H by
      obtain ⟨t, h1, h2⟩ := hx
      exact ⟨t, h1.nox, h2⟩
    have hrk : Room k (A.deeper (envOfC "law" (defScope sLaw) s.heap.objs.size f (.ref cL))) := hr.mono (by omega)
    refine ⟨_, pss_cons (ps_for PassesOwn.never rfl (pi_range1 (by rfl) M.range (pa_cons (pe_callB (call_max2 rfl) (by rfl) M.max (by decide +kernel) (pa_cons pe_int (pa_cons (pe_callB (call_min2 rfl) (by rfl) M.min (by decide +kernel) (pa_cons pe_int (pa_cons (pe_callB call_len_seq (by rfl) M.len PySem.boot_len (pa_cons (pv 0) pa_nil)) pa_nil))) pa_nil))) pa_nil)) (pg_name (i := 1) scLaw.nd rfl (.inl rfl))
        (pss_cons (ps_set (i := 2) scLaw.nd rfl (.inl rfl) (pe_lst (pa_cons (pe_add (pe_call G1 hr9 (by rfl) g1 k1 b1 .nil pass0 (pa_cons (pv 0) (pa_cons (pv 1) pa_nil))) (pe_op op_mul pe_int (pv 1))) pa_nil)))
        (pss_cons (ps_set (i := 3) scLaw.nd rfl (.inl rfl) (pe_call G3 hr9 (by rfl) g3 k3 b3 .nil pass0 (pa_cons (pv 2) (pa_cons (pe_add pe_int (pe_call G2 hr9 (by rfl) g2 k2 b2 .nil pass0 (pa_cons (pv 2) (pa_cons pe_int pa_nil)))) (pa_cons pe_int pa_nil)))))
        (pss_cons (ps_set (i := 7) scLaw.nd rfl (.inr rfl) (pe_call G4 hr9 (by rfl) g4 k4 b4 .nil pass0 (pa_cons (pv 3) pa_nil)))
        (pss_cons (ps_if (PW.pt (pw_or (pt_cmpR op_ne (pe_call GT hrk (by rfl) gT kT bT .nil passL (pa_cons (pv 3) pa_nil)) (pv 7) (nomark _)) (pw_or1 (pt_cmpR (op_neD hr9.units) (pe_call GQ hrk (by rfl) gQ kQ bQ .nil passL (pa_cons (pv 7) pa_nil)) (pv 3) (nomark _))))) (pss_one (ps_ret pe_bl)) pss_nil)
        (Evl.pss_cut (ps_if (pt_cmpR op_gt (pe_call G2 hr9 (by rfl) g2 k2 b2 .nil pass0 (pa_cons (pv 2) (pa_cons pe_int pa_nil))) pe_int (nomark _)) (pss_one (ps_set (i := 7) scLaw.nd rfl (.inr rfl) (pe_call G5 hr9 (by rfl) g5 k5 b5 .nil pass0 (pa_cons (pv 2) (pa_cons (pv 7) pa_nil))))) pss_nil)
        (Evl.pss_cut (ps_set (i := 4) scLaw.nd rfl (.inl rfl) (pe_call G6 hr9 (by rfl) g6 k6 b6 .nil pass0 (pa_cons (pv 7) pa_nil)))
        (Evl.pss_cut (ps_set (i := 5) scLaw.nd rfl (.inl rfl) (LamX.pe_lamcall (T := Tb) (TT := TTo CT CD) (a := "_law_ask") (k := k) (c := cL) (P := pL) (Ng := nWord) (t := fun E => tCall (spRead2 CT) [] E (tCons (tVar 7) tNil)) (by rfl) gR kR lkR hcR bR scWord rfl (.inl rfl) (word_gives T KT KD M) TB rfl (List.mem_singleton.mpr rfl) (fun p hp _ => by rw [List.mem_singleton.mp hp]; rfl) hr (LamX.lamS_by (sc := defScope sLaw) (by decide +kernel)) rfl (fun _ _ _ _ _ => rfl) (fun A outer s H E f c2 hr2 => pe_call (E := E) GQ hr2 (by rfl) gQ kQ bQ .nil (passes_call (takes_of rfl rfl rfl rfl) (fun _ _ _ _ h => h)) (pa_cons (pv 7) pa_nil))))
        (Evl.pss_cut (ps_if (PW.pt (pw_and (pt_cmpR op_isN (pv 4) pe_non (nomark _)) (pw_and1 (pt_cmpR (op_neD hr9.units) (pv 5) (pe_tup (pa_cons pe_str (pa_cons (pe_lst (pa_cons pe_bl (pa_cons pe_bl (pa_cons pe_bl pa_nil)))) pa_nil))) (nomark _))))) (pss_one (ps_ret pe_bl)) pss_nil)
        (Evl.pss_cut (ps_if (PW.pt (pw_and (pt_cmpR op_notN (pv 4) pe_non (nomark _)) (pw_and1 (PW.pt (pw_or (pt_cmpR (op_neD hr9.units) (pv 5) (pe_tup (pa_cons pe_str (pa_cons (pv 4) pa_nil))) (nomark _)) (pw_or1 (pt_cmpR op_ne (pe_call GT hrk (by rfl) gT kT bT .nil passL (pa_cons (pv 4) pa_nil)) (pv 7) (nomark _)))))))) (pss_one (ps_ret pe_bl)) pss_nil)
        (pss_cons (ps_set (i := 6) scLaw.nd rfl (.inr rfl) (pe_ix ix_list (pe_lst (pa_cons pe_non (pa_cons (pe_callTy call_list_of (by rfl) M.list (by decide +kernel) (pa_cons (pv 3) pa_nil)) (pa_cons (pe_tup pa_nil) (pa_cons (pe_op op_catA (pv 3) (pe_slice (show SlR _ (rSlA K) from sl_tupA) (pv 3) po_none (po_some pe_int))) (pa_cons (pv 7) pa_nil)))))) (pe_call G2 hr9 (by rfl) g2 k2 b2 .nil pass0 (pa_cons (pv 2) (pa_cons pe_int pa_nil))) (fun _ _ => rfl)))
        (pss_one (ps_if (pt_cmpR (op_neD hr9.units) (LamX.pe_lamcall (T := Tb) (TT := TTo CT CD) (a := "_law_ask") (k := k) (c := cL) (P := pL) (Ng := nWord) (t := fun E => tCall (spText CD) [] E (tCons (tVar 6) tNil)) (by rfl) gR kR lkR hcR bR scWord rfl (.inl rfl) (word_gives T KT KD M) TB rfl (List.mem_singleton.mpr rfl) (fun p hp _ => by rw [List.mem_singleton.mp hp]; rfl) hr (LamX.lamS_by (sc := defScope sLaw) (by decide +kernel)) rfl (fun _ _ _ _ _ => rfl) (fun A outer s H E f c2 hr2 => pe_call (E := E) GT hr2 (by rfl) gT kT bT .nil (passes_call (takes_of rfl rfl rfl rfl) (fun _ _ _ _ h => h)) (pa_cons (pv 6) pa_nil))) (pe_tup (pa_cons pe_str (pa_cons (pe_lst (pa_cons pe_bl (pa_cons pe_bl (pa_cons pe_bl pa_nil)))) pa_nil))) (nomark _)) (pss_one (ps_ret pe_bl)) pss_nil)))))))))))))
      (pss_one (ps_ret pe_bl)), ?_⟩
    refine ⟨.ref a, rfl, a, _, rfl, .inl hS, 20, _, rfl, 1, _, rfl, _, rfl, ?_, ?_, ?_⟩
    · split <;> split <;> omega
    · rw [List.length_map]
      split <;> split <;> omega
    refine for_range (lo := 0) (fun i σ H' => ∃ y1 y2 y3 y4 y5 y6 y7, σ = [some (.ref a), y1, y2, y3, y4, y5, y6, y7] ∧ SqL K H' a (ns.map V.int) ∧ LamX.Tabs Tb H') ⟨_, _, _, _, _, _, _, rfl, hS, tabs⟩ (fun i σ H0 hi hP => ?_) (fun σ H0 hP => q H0)
    obtain ⟨y1, y2, y3, y4, y5, y6, y7, rfl, hS0, tabs0⟩ := hP
    -- the state
    refine ⟨.ref a, rfl, .int (0 + (i : Nat)), rfl, a, i, ns, (by show [V.ref a, V.int ((0 : Int) + ((i : Nat) : Int))] = [V.ref a, V.int ((i : Nat) : Int)]; rw [Int.zero_add]), hS0, fun z => ⟨.int (0 + (i : Nat)), rfl, 23, _, rfl, rfl, .inl ⟨by decide, by decide⟩, z, _, rfl, rfl, by show 1 ≤ sizeLine; decide, fun st nst => ?_⟩⟩
    have hna := sq_no hS0 nst
    have tb0 : LamX.Tabs Tb (upd H0 st (.lst [.int (z + 23 * (0 + (i : Nat)))])) := tabs0.ext (same_new nst)
    have W0 : Well st (upd H0 st (.lst [.int (z + 23 * (0 + (i : Nat)))])) := .inl ⟨_, upd_same⟩
    -- the dealing
    refine ⟨.ref st, rfl, .ref st, rfl, st, 12, rfl, W0, by decide, by decide, fun r H1 r0 r1 W1 e1 => ⟨1, r, rfl, rfl, st, 1 + r, 8, rfl, W1, by omega, by omega, by decide, by decide, fun v3 l H2 tdv l1 l8 okl fl W2 e2 => ?_⟩⟩
    have ok : okL l := ⟨okl, l1, l8, fl⟩
    have tb2 : LamX.Tabs Tb H2 := tabs_well W1 e2 (tabs_well W0 e1 tb0)
    have s2' : SqL K H2 a (ns.map V.int) := sq_keep hS0 nst (e1.trans e2)
    clear tabs0 tb0 W0 e1 e2 W1
    -- its text
    refine ⟨v3, rfl, st, v3, l, rfl, tdv, ok, fun H3 s3 => ?_⟩
    have isl := okL_deal ok
    have no : ∀ {d : D} {X : Prop}, isDealing d = true → isDealing d = false → X := fun h1 h2 => absurd (h1.symm.trans h2) (by decide)
    have hwl : ∀ p ∈ l, wordB p.1 = true := fun p hp => (ok.1 p hp).1
    have td3 := tdv.mono (.of s3)
    obtain ⟨a3, rfl⟩ : ∃ a3, v3 = .ref a3 := by
      cases tdv
      exact ⟨_, rfl⟩
    refine ⟨.ref a3, rfl, st, .ref a3, _, rfl, td3, fun l2 ok2 el H4 s4 => ?_, fun hf => no isl hf⟩
    have el' := steps_inj (D.tup.inj el)
    subst el'
    refine ⟨.str (txt l), rfl, rfl, _, rfl, ?_⟩
    rw [show decide (V.str (txt l) = V.str (txt l)) = true from decide_eq_true rfl]
    have td4 := td3.mono (.of s4)
    have tlen : ∀ z, D.str (txt l) = .str z → z.length ≤ 90000 := fun z e => by
      cases e
      exact Nat.le_trans (txt_len ok) (by decide)
    refine iteF ⟨.str (txt l), rfl, st, .str (txt l), .str (txt l), rfl, .str (txt l), tlen, fun hn => absurd (hn.symm.trans (lr_txt ok)) (by simp), fun m hm _ _ c H5 tc s5 => ?_⟩
    have em : l = m := Option.some.inj ((lr_txt ok).symm.trans hm)
    subst em
    have s25 := Same.trans s3 (Same.trans s4 s5)
    have W5 := W2.same s25
    have W4 := W2.same (Same.trans s3 s4)
    have tc5 := tc st W4.some
    have td5 := td4.mono (.of s5)
    refine ⟨.ref a3, rfl, _, _, deal_dp tc5, deal_dp td5, stepPs_shapedT hwl, stepPs_shapedT hwl, _, rfl, ?_⟩
    rw [SeqAt.eqv_refl _ (by simp only [PyData.canLay0]; exact stepPs_lay hwl)]
    have tb5 := tb2.ext s25
    have sq5 : SqL K H5 a (ns.map V.int) := s25.seq s2'
    clear s3 s4 s5 s25 td3 td4 tc tc5 W2 W4 tb2 s2' tdv
    refine iteF ?_
    -- spoilt or not
    refine ⟨fun σ' H' => ∃ y4 y5 y6 v d, σ' = [some (.ref a), some (.int (0 + (i : Nat))), some (.ref st), some (.ref a3), y4, y5, y6, some v] ∧ (∀ z, d = .str z → z.length ≤ 90000) ∧ isDealing d = false ∧ Bs K Tb st a a3 ns l v d H', ?_, fun σ' H6 hM => ?_⟩
    · refine ⟨.ref st, rfl, st, 5, rfl, W5, by decide, by decide, fun r5 H6 _ _ W6 e6 => ⟨_, 0, rfl, rfl, _, rfl, ite2 (fun _ => ?_) (fun _ => ?_)⟩⟩
      · refine ⟨.ref st, rfl, .str (txt l), rfl, st, txt l, rfl, W6, txt_len ok, fun v d H7 tv hl nd W7 e7 => ?_⟩
        exact ⟨_, _, _, v, d, rfl, hl, nd, (td5.mono e6).mono e7, tv, W7, tabs_well W6 e7 (tabs_well W5 e6 tb5), sq_ex hna (sq_ex hna sq5 e6) e7⟩
      · exact ⟨_, _, _, .str (txt l), .str (txt l), rfl, tlen, rfl, td5.mono e6, .str _, W6, tabs_well W5 e6 tb5, sq_ex hna sq5 e6⟩
    obtain ⟨y4, y5, y6, v, d, rfl, hl6, nd6, B6⟩ := hM
    clear td5 W5 tb5 sq5
    -- due
    refine ⟨fun σ' H' => ∃ due, σ' = [some (.ref a), some (.int (0 + (i : Nat))), some (.ref st), some (.ref a3), some due, y5, y6, some v] ∧ Bs K Tb st a a3 ns l v d H' ∧ ((lrD d = none ∧ due = .non) ∨ ∃ m c, lrD d = some m ∧ due = .ref c ∧ TD st H' (.ref c) (.tup (m.map stepD))), ?_, fun σ' H7 hM => ?_⟩
    · refine ⟨v, rfl, st, v, d, rfl, B6.tv, hl6, fun hn H7 s7 => ⟨_, rfl, B6.same s7, .inl ⟨hn, rfl⟩⟩, fun m hm c H7 tc s7 => ⟨_, rfl, B6.same s7, .inr ⟨m, c, hm, rfl, tc st B6.W.some⟩⟩⟩
    obtain ⟨due, rfl, B7, hdue⟩ := hM
    clear B6
    -- found
    refine ⟨fun σ' H' => ∃ p, σ' = [some (.ref a), some (.int (0 + (i : Nat))), some (.ref st), some (.ref a3), some due, some (.ref p), y6, some v] ∧ Bs K Tb st a a3 ns l v d H' ∧ ((due = .non ∧ ∃ kp, H' p = some (.tup [.str refS, .ref kp]) ∧ H' kp = some (.lst [.bl true, .bl false, .bl false])) ∨ ∃ m c c2, okL m ∧ d = .str (txt m) ∧ due = .ref c ∧ TD st H' (.ref c) (.tup (m.map stepD)) ∧ H' p = some (.tup [.str toldS, .ref c2]) ∧ TD st H' (.ref c2) (.tup (m.map stepD))), ?_, fun σ' H8 hM => ?_⟩
    · refine ⟨B7.tb, fun G1 n1 t1 => ⟨v, rfl, st, v, d, rfl, B7.tv.monoN n1, hl6, fun hn H8 s8 => ⟨rfl, .inl ⟨rfl, fun p kp H9 s9 hp hk => ?_⟩⟩, fun m hm okm ed c2 H8 tc s8 => ⟨by show 2 ≤ sizeLine; decide, fun p np => ?_⟩⟩⟩
      · have B9 := (B7.extN n1 t1).same (Same.trans s8 s9)
        rcases hdue with ⟨_, h2⟩ | ⟨m, c, h1, _⟩
        · exact ⟨p, rfl, B9, .inl ⟨h2, kp, hp, hk⟩⟩
        · rw [hn] at h1
          cases h1
      · have sp := same_new (o := .tup [.str toldS, .ref c2]) np
        have B8 := (B7.extN n1 t1).same (Same.trans s8 sp)
        rcases hdue with ⟨h1, _⟩ | ⟨m', c, h1, h2, h3⟩
        · rw [hm] at h1
          cases h1
        · rw [hm] at h1
          have em : m = m' := Option.some.inj h1
          subst em
          exact ⟨p, rfl, B8, .inr ⟨m, c, c2, okm, ed, h2, (h3.monoN n1).mono (.of (Same.trans s8 sp)), upd_same, (tc st (B7.W.extN n1).some).mono (.of sp)⟩⟩
    obtain ⟨p, rfl, B8, hfd⟩ := hM
    clear B7 hdue
    -- refused where it is none
    refine ⟨fun σ' H' => σ' = [some (.ref a), some (.int (0 + (i : Nat))), some (.ref st), some (.ref a3), some due, some (.ref p), y6, some v] ∧ Same H8 H', ?_, fun σ' H9 hM => ?_⟩
    · rcases hfd with ⟨rfl, kp, hp, hk⟩ | ⟨m, c, c2, okm, ed, rfl, tc, hp, tc2⟩
      · refine ⟨.non, rfl, rfl, _, rfl, ?_⟩
        rw [show decide (V.non = V.non) = true from decide_eq_true rfl]
        refine iteT ⟨.ref p, rfl, by show 3 ≤ sizeLine; decide, fun pm nm => ⟨by show 2 ≤ sizeLine; decide, fun pt nt => ?_⟩⟩
        have u1 := same_new (o := .lst [.bl true, .bl false, .bl false]) nm
        have u2 := same_new (o := .tup [.str refS, .ref pm]) nt
        have u12 := Same.trans u1 u2
        refine ⟨refP true false, refP true false, refP_dp (u12 _ _ hp) (u12 _ _ hk), refP_dp upd_same (u2 _ _ upd_same), refP_shaped _ _, refP_shaped _ _, _, rfl, ?_⟩
        rw [refP_eqv]
        exact iteF ⟨rfl, u12⟩
      · refine ⟨.ref c, rfl, rfl, _, rfl, ?_⟩
        rw [show decide (V.ref c = V.non) = false from decide_eq_false (fun z => nomatch z)]
        exact iteF (iteF ⟨rfl, Same.refl _⟩)
    obtain ⟨rfl, s89⟩ := hM
    -- told where it is one
    refine ⟨fun σ' H' => σ' = [some (.ref a), some (.int (0 + (i : Nat))), some (.ref st), some (.ref a3), some due, some (.ref p), y6, some v] ∧ Same H8 H', ?_, fun σ' H10 hM => ?_⟩
    · rcases hfd with ⟨rfl, kp, hp, hk⟩ | ⟨m, c, c2, okm, ed, rfl, tc, hp, tc2⟩
      · refine ⟨.non, rfl, rfl, _, rfl, ?_⟩
        rw [show decide (V.non = V.non) = true from decide_eq_true rfl]
        exact iteF (iteF ⟨rfl, s89⟩)
      · refine ⟨.ref c, rfl, rfl, _, rfl, ?_⟩
        rw [show decide (V.ref c = V.non) = false from decide_eq_false (fun z => nomatch z)]
        have hwm : ∀ p ∈ m, wordB p.1 = true := fun p hp => (okm.1 p hp).1
        refine iteT ⟨.ref p, rfl, .ref c, rfl, by show 2 ≤ sizeLine; decide, fun pt nt => ?_⟩
        have u1 := same_new (o := .tup [.str toldS, .ref c]) nt
        have u12 := Same.trans s89 u1
        refine ⟨toldP m, toldP m, toldP_dp (u12 _ _ hp) (tc2.mono (.of u12)), toldP_dp upd_same (tc.mono (.of u12)), toldP_shaped hwm, toldP_shaped hwm, _, rfl, ?_⟩
        rw [SeqAt.eqv_refl _ (toldP_lay hwm)]
        refine iteF ⟨.ref c, rfl, st, .ref c, _, rfl, tc.mono (.of u12), fun m2 ok2 el H11 s11 => ?_, fun hf => no (okL_deal okm) hf⟩
        have el' := steps_inj (D.tup.inj el)
        subst el'
        have ev : v = .str (txt m) := by
          have := B8.tv
          rw [ed] at this
          cases this
          rfl
        subst ev
        refine ⟨.str (txt m), rfl, rfl, _, rfl, ?_⟩
        rw [show decide (V.str (txt m) = V.str (txt m)) = true from decide_eq_true rfl]
        exact iteF ⟨rfl, Same.trans u12 s11⟩
    obtain ⟨rfl, s810⟩ := hM
    have B10 := B8.same s810
    clear s89 B8 hfd
    -- what is odd
    have td10 := B10.td
    have td10' := td10
    cases td10' with
    | @tup _ xs _ na3 ha3 txs =>
    have hlx : xs.length = l.length := by rw [txs.length, List.length_map]
    have V0 := B10.W
    refine ⟨.ref a3, rfl, a3, xs, rfl, .inr (SqT.of ha3), fun c1 m1 => ?_⟩
    have u1 := same_new (o := .lst xs) m1
    have V1 := V0.same u1
    refine ⟨by show 0 ≤ sizeLine; decide, fun c2 m2 => ?_⟩
    have u2 := same_new (o := .tup []) m2
    have V2 := V1.same u2
    have u12 := Same.trans u1 u2
    refine ⟨.ref a3, rfl, .ref a3, rfl, 1, rfl, ?_⟩
    refine sl1_ok V2 (td10.mono (.of u12)) ok.2.1 fun c3 H3 t3 u3 => ?_
    have V3 := V2.same u3
    refine cat_ok V3 ((td10.mono (.of u12)).mono (.of u3)) t3 (by rw [List.length_map, List.length_map, List.length_take]; have := ok.2.2.1; omega) fun c4 H4 t4 u4 => ?_
    have V4 := V3.same u4
    refine ⟨v, rfl, by show 5 ≤ sizeLine; decide, fun cm nm => ?_⟩
    have u5 := same_new (o := .lst [.non, .ref c1, .ref c2, .ref c4, v]) nm
    have V5 := V4.same u5
    have u345 := Same.trans u3 (Same.trans u4 u5)
    have u15 := Same.trans u12 u345
    refine ⟨.ref st, rfl, st, 5, rfl, V5, by decide, by decide, fun r H11 r0 r1 W11 e11 => ?_⟩
    have tl := TDs.mono e11 (TDs.cons TD.non (TDs.cons (TD.lst (V0.ne m1) (u345 _ _ (u2 _ _ upd_same)) (txs.mono (.of u15))) (TDs.cons (TD.tup (V1.ne m2) (u345 _ _ upd_same) .nil) (TDs.cons (t4.mono (.of u5)) (TDs.cons (B10.tv.mono (.of u15)) .nil)))))
    obtain ⟨y, dy, ay, ty, my⟩ := tl.pickIn r0 r1
    have ndy : isDealing dy = false := by
      simp only [List.mem_cons, List.not_mem_nil, or_false] at my
      rcases my with rfl | rfl | rfl | rfl | rfl
      · rfl
      · rfl
      · rfl
      · exact no_more ok
      · exact nd6
    refine ⟨cm, _, r, y, rfl, rfl, SqL.of (e11 _ _ (V4.ne nm) upd_same), ay, ?_⟩
    have tb11 : LamX.Tabs Tb H11 := tabs_well V5 e11 (B10.tb.ext u15)
    have sq11 : SqL K H11 a (ns.map V.int) := sq_ex hna (u15.seq B10.sq) e11
    -- refused
    refine ⟨tb11, fun G1 n1 t1 => ⟨y, rfl, st, y, dy, rfl, ty.monoN n1, fun m okm em => ?_, fun _ H12 s12 => ⟨rfl, .inr ⟨rfl, fun p' kp H13 s13 hp hk => ?_⟩⟩⟩⟩
    · rw [em] at ndy
      exact no (okL_deal okm) ndy
    refine ⟨by show 3 ≤ sizeLine; decide, fun pm nm2 => ⟨by show 2 ≤ sizeLine; decide, fun pt nt => ?_⟩⟩
    have w1 := same_new (o := .lst [.bl false, .bl true, .bl false]) nm2
    have w2 := same_new (o := .tup [.str refS, .ref pm]) nt
    have w12 := Same.trans w1 w2
    refine ⟨refP false true, refP false true, refP_dp (w12 _ _ hp) (w12 _ _ hk), refP_dp upd_same (w2 _ _ upd_same), refP_shaped _ _, refP_shaped _ _, _, rfl, ?_⟩
    rw [refP_eqv]
    have sAll := Same.trans s12 (Same.trans s13 w12)
    exact iteF ⟨_, _, _, _, _, _, _, rfl, sAll.seq (sqN n1 sq11), t1.ext sAll⟩
end
end As

namespace As
open PySem PySem.Spec PyProof.Rows L2
/-! ### a dict of two -/
theorem ns_two {K : PySem.W.Frag} {d : Addr} {h1 h2 : Int} {k1 k2 : Str} {t1 t2 : Tok} {v1 v2 : Value} {n : Nat} (hl : K.lookup d = some ⟨.type "dict", none, .dict #[⟨h1, .str k1 t1, v1⟩, ⟨h2, .str k2 t2, v2⟩] n, #[]⟩) (z : Str) :
    PySem.W.nsIn K d z = if (k1 == z) = true then some (some v1) else if (k2 == z) = true then some (some v2) else some none := by
  unfold PySem.W.nsIn
  rw [hl]
  cases e1 : (k1 == z) with
  | true => simp [List.find?, Value.isStr, e1]
  | false =>
    cases e2 : (k2 == z) with
    | true => simp [List.find?, Value.isStr, e1, e2]
    | false => simp [List.find?, Value.isStr, DictEntry.refKey, e1, e2]
theorem dc_of {K : PySem.W.Frag} {w : World} {mg : Str → Option Value} {dL dW : Addr} {h1 h2 h3 h4 : Int} {t1 t2 t3 t4 t5 t6 t7 t8 : Tok} {nL nW : Nat} (gL : mg "LETTERS" = some (.ref dL)) (gW : mg "WORDS" = some (.ref dW))
    (hL : K.lookup dL = some ⟨.type "dict", none, .dict #[⟨h1, .str "read" t1, .str "r" t2⟩, ⟨h2, .str "write" t3, .str "w" t4⟩] nL, #[]⟩) (kL : PySem.W.KeysLit w.params [⟨h1, .str "read" t1, .str "r" t2⟩, ⟨h2, .str "write" t3, .str "w" t4⟩])
    (hW : K.lookup dW = some ⟨.type "dict", none, .dict #[⟨h3, .str "r" t5, .str "read" t6⟩, ⟨h4, .str "w" t7, .str "write" t8⟩] nW, #[]⟩) (kW : PySem.W.KeysLit w.params [⟨h3, .str "r" t5, .str "read" t6⟩, ⟨h4, .str "w" t7, .str "write" t8⟩]) (low : (dW == sysModules) = false) : Dc K w mg dL dW := by
  refine ⟨gL, gW, ⟨_, _, _, hL, kL, ?_, ⟨t2, rfl⟩⟩, ⟨_, _, _, hL, kL, ?_, ⟨t4, rfl⟩⟩, ⟨_, _, hW, kW, low⟩, ⟨_, _, _, hW, kW, ?_, ⟨t6, rfl⟩⟩, ⟨_, _, _, hW, kW, ?_, ⟨t8, rfl⟩⟩, fun z z1 z2 => ?_⟩
  · rw [ns_two hL, if_pos (by decide +kernel)]
    rfl
  · rw [ns_two hL, if_neg (by decide +kernel), if_pos (by decide +kernel)]
    rfl
  · rw [ns_two hW, if_pos (by decide +kernel)]
    rfl
  · rw [ns_two hW, if_neg (by decide +kernel), if_pos (by decide +kernel)]
    rfl
  · have e1 : ¬ ((Str.ofString "r" == z) = true) := fun e => z1 (eq_of_beq e).symm
    have e2 : ¬ ((Str.ofString "w" == z) = true) := fun e => z2 (eq_of_beq e).symm
    rw [ns_two hW]
    exact (if_neg e1).trans (if_neg e2)
/-! ### what the top has written; the end -/
theorem all_mk {l : PySem.W.OpenLaw} {w : World} {K : PySem.W.Frag} {h : Heap} {mg : Str → Option Value} {fa : Addr} (X : K.In h) (G : h.Ns mainGlobals mg) (hfa : mg "law" = some (.ref fa))
    {f1 f2 f3 f4 f5 f6 f7 f8 f9 f10 f11 f12 f13 f14 f15 f16 f17 f18 f19 f20 f21 f22 CA CT CD CS cL pL dL dW : Addr} {od1 an1 od2 an2 od3 an3 od4 an4 od5 an5 od6 an6 od7 an7 od8 an8 od9 an9 od10 an10 od11 an11 od12 an12 od13 an13 od14 an14 od15 an15 od16 an16 od17 an17 od18 an18 od19 an19 od20 an20 od21 an21 od22 an22 : Option Addr} {sl1 sl2 sl3 sl4 sl5 sl6 sl7 sl8 sl9 sl10 sl11 sl12 sl13 sl14 sl15 sl16 sl17 sl18 sl19 sl20 sl21 sl22 : Array (Option Value)} {oc1 kV1 dc1 pm1 ct1 cd1 oc2 kV2 dc2 pm2 ct2 cd2 oc3 kV3 dc3 pm3 ct3 cd3 oc4 kV4 dc4 pm4 ct4 cd4 oc5 kV5 dc5 pm5 ct5 cd5 oc6 kV6 dc6 pm6 ct6 cd6 oc7 kV7 dc7 pm7 ct7 cd7 oc8 kV8 dc8 pm8 ct8 cd8 oc9 kV9 dc9 pm9 ct9 cd9 oc10 kV10 dc10 pm10 ct10 cd10 oc11 kV11 dc11 pm11 ct11 cd11 oc12 kV12 dc12 pm12 ct12 cd12 oc13 kV13 dc13 pm13 ct13 cd13 oc14 kV14 dc14 pm14 ct14 cd14 oc15 kV15 dc15 pm15 ct15 cd15 oc16 kV16 dc16 pm16 ct16 cd16 oc17 kV17 dc17 pm17 ct17 cd17 oc18 kV18 dc18 pm18 ct18 cd18 oc19 kV19 dc19 pm19 ct19 cd19 oc20 kV20 dc20 pm20 ct20 cd20 oc21 kV21 dc21 pm21 ct21 cd21 oc22 kV22 dc22 pm22 ct22 : Value} {t1 t2 t3 tt1 tt2 tt3 tt4 tt5 tt6 tt7 tt8 : Tok} {hh1 hh2 hh3 hh4 : Int} {nL nW : Nat}
    (a1 : PySem.W.nsIn K mainGlobals "is_whole" = some (some (.ref f1))) (l1 : K.lookup f1 = some ⟨oc1, od1, .func (PySem.W.fnOf "is_whole" "is_whole" (defArgs sIsWhole) (defBody sIsWhole) (defScope sIsWhole) .none kV1 dc1 pm1 an1 cd1 ct1), sl1⟩) (c1 : PySem.W.codeIn K cd1 "is_whole" = true) (k1 : PySem.W.keepIn K (.ref f1) = true)
    (a2 : PySem.W.nsIn K mainGlobals "is_number" = some (some (.ref f2))) (l2 : K.lookup f2 = some ⟨oc2, od2, .func (PySem.W.fnOf "is_number" "is_number" (defArgs sIsNumber) (defBody sIsNumber) (defScope sIsNumber) .none kV2 dc2 pm2 an2 cd2 ct2), sl2⟩) (c2 : PySem.W.codeIn K cd2 "is_number" = true) (k2 : PySem.W.keepIn K (.ref f2) = true)
    (a3 : PySem.W.nsIn K mainGlobals "is_box" = some (some (.ref f3))) (l3 : K.lookup f3 = some ⟨oc3, od3, .func (PySem.W.fnOf "is_box" "is_box" (defArgs sIsBox) (defBody sIsBox) (defScope sIsBox) .none kV3 dc3 pm3 an3 cd3 ct3), sl3⟩) (c3 : PySem.W.codeIn K cd3 "is_box" = true) (k3 : PySem.W.keepIn K (.ref f3) = true)
    (a4 : PySem.W.nsIn K mainGlobals "is_one_of" = some (some (.ref f4))) (l4 : K.lookup f4 = some ⟨oc4, od4, .func (PySem.W.fnOf "is_one_of" "is_one_of" (defArgs sIsOneOf) (defBody sIsOneOf) (defScope sIsOneOf) .none kV4 dc4 pm4 an4 cd4 ct4), sl4⟩) (c4 : PySem.W.codeIn K cd4 "is_one_of" = true) (k4 : PySem.W.keepIn K (.ref f4) = true)
    (a5 : PySem.W.nsIn K mainGlobals "is_step" = some (some (.ref f5))) (l5 : K.lookup f5 = some ⟨oc5, od5, .func (PySem.W.fnOf "is_step" "is_step" (defArgs sIsStep) (defBody sIsStep) (defScope sIsStep) .none kV5 dc5 pm5 an5 cd5 ct5), sl5⟩) (c5 : PySem.W.codeIn K cd5 "is_step" = true) (k5 : PySem.W.keepIn K (.ref f5) = true)
    (a6 : PySem.W.nsIn K mainGlobals "may_follow" = some (some (.ref f6))) (l6 : K.lookup f6 = some ⟨oc6, od6, .func (PySem.W.fnOf "may_follow" "may_follow" (defArgs sMayFollow) (defBody sMayFollow) (defScope sMayFollow) .none kV6 dc6 pm6 an6 cd6 ct6), sl6⟩) (c6 : PySem.W.codeIn K cd6 "may_follow" = true) (k6 : PySem.W.keepIn K (.ref f6) = true)
    (a7 : PySem.W.nsIn K mainGlobals "is_dealing" = some (some (.ref f7))) (l7 : K.lookup f7 = some ⟨oc7, od7, .func (PySem.W.fnOf "is_dealing" "is_dealing" (defArgs sIsDealing) (defBody sIsDealing) (defScope sIsDealing) .none kV7 dc7 pm7 an7 cd7 ct7), sl7⟩) (c7 : PySem.W.codeIn K cd7 "is_dealing" = true) (k7 : PySem.W.keepIn K (.ref f7) = true)
    (a8 : PySem.W.nsIn K mainGlobals "check_dealing" = some (some (.ref f8))) (l8 : K.lookup f8 = some ⟨oc8, od8, .func (PySem.W.fnOf "check_dealing" "check_dealing" (defArgs sCheck) (defBody sCheck) (defScope sCheck) .none kV8 dc8 pm8 an8 cd8 ct8), sl8⟩) (c8 : PySem.W.codeIn K cd8 "check_dealing" = true) (k8 : PySem.W.keepIn K (.ref f8) = true)
    (a9 : PySem.W.nsIn K mainGlobals "dealing_text" = some (some (.ref f9))) (l9 : K.lookup f9 = some ⟨oc9, od9, .func (PySem.W.fnOf "dealing_text" "dealing_text" (defArgs sText) (defBody sText) (defScope sText) .none kV9 dc9 pm9 an9 cd9 ct9), sl9⟩) (c9 : PySem.W.codeIn K cd9 "dealing_text" = true) (k9 : PySem.W.keepIn K (.ref f9) = true)
    (a10 : PySem.W.nsIn K mainGlobals "are_figures" = some (some (.ref f10))) (l10 : K.lookup f10 = some ⟨oc10, od10, .func (PySem.W.fnOf "are_figures" "are_figures" (defArgs sFigures) (defBody sFigures) (defScope sFigures) .none kV10 dc10 pm10 an10 cd10 ct10), sl10⟩) (c10 : PySem.W.codeIn K cd10 "are_figures" = true) (k10 : PySem.W.keepIn K (.ref f10) = true)
    (a11 : PySem.W.nsIn K mainGlobals "read_step" = some (some (.ref f11))) (l11 : K.lookup f11 = some ⟨oc11, od11, .func (PySem.W.fnOf "read_step" "read_step" (defArgs sRdStep) (defBody sRdStep) (defScope sRdStep) .none kV11 dc11 pm11 an11 cd11 ct11), sl11⟩) (c11 : PySem.W.codeIn K cd11 "read_step" = true) (k11 : PySem.W.keepIn K (.ref f11) = true)
    (a12 : PySem.W.nsIn K mainGlobals "read_dealing" = some (some (.ref f12))) (l12 : K.lookup f12 = some ⟨oc12, od12, .func (PySem.W.fnOf "read_dealing" "read_dealing" (defArgs sRdDeal) (defBody sRdDeal) (defScope sRdDeal) .none kV12 dc12 pm12 an12 cd12 ct12), sl12⟩) (c12 : PySem.W.codeIn K cd12 "read_dealing" = true) (k12 : PySem.W.keepIn K (.ref f12) = true)
    (a13 : PySem.W.nsIn K mainGlobals "_law_cell_at" = some (some (.ref f13))) (l13 : K.lookup f13 = some ⟨oc13, od13, .func (PySem.W.fnOf "_law_cell_at" "_law_cell_at" (defArgs sCellAt) (defBody sCellAt) (defScope sCellAt) .none kV13 dc13 pm13 an13 cd13 ct13), sl13⟩) (c13 : PySem.W.codeIn K cd13 "_law_cell_at" = true) (k13 : PySem.W.keepIn K (.ref f13) = true)
    (a14 : PySem.W.nsIn K mainGlobals "_law_digit" = some (some (.ref f14))) (l14 : K.lookup f14 = some ⟨oc14, od14, .func (PySem.W.fnOf "_law_digit" "_law_digit" (defArgs sDigit) (defBody sDigit) (defScope sDigit) .none kV14 dc14 pm14 an14 cd14 ct14), sl14⟩) (c14 : PySem.W.codeIn K cd14 "_law_digit" = true) (k14 : PySem.W.keepIn K (.ref f14) = true)
    (a15 : PySem.W.nsIn K mainGlobals "_law_box" = some (some (.ref f15))) (l15 : K.lookup f15 = some ⟨oc15, od15, .func (PySem.W.fnOf "_law_box" "_law_box" (defArgs sBox) (defBody sBox) (defScope sBox) .none kV15 dc15 pm15 an15 cd15 ct15), sl15⟩) (c15 : PySem.W.codeIn K cd15 "_law_box" = true) (k15 : PySem.W.keepIn K (.ref f15) = true)
    (a16 : PySem.W.nsIn K mainGlobals "_law_dealing" = some (some (.ref f16))) (l16 : K.lookup f16 = some ⟨oc16, od16, .func (PySem.W.fnOf "_law_dealing" "_law_dealing" (defArgs sDealing) (defBody sDealing) (defScope sDealing) .none kV16 dc16 pm16 an16 cd16 ct16), sl16⟩) (c16 : PySem.W.codeIn K cd16 "_law_dealing" = true) (k16 : PySem.W.keepIn K (.ref f16) = true)
    (a17 : PySem.W.nsIn K mainGlobals "_law_number" = some (some (.ref f17))) (l17 : K.lookup f17 = some ⟨oc17, od17, .func (PySem.W.fnOf "_law_number" "_law_number" (defArgs sNumber) (defBody sNumber) (defScope sNumber) .none kV17 dc17 pm17 an17 cd17 ct17), sl17⟩) (c17 : PySem.W.codeIn K cd17 "_law_number" = true) (k17 : PySem.W.keepIn K (.ref f17) = true)
    (a18 : PySem.W.nsIn K mainGlobals "_law_read" = some (some (.ref f18))) (l18 : K.lookup f18 = some ⟨oc18, od18, .func (PySem.W.fnOf "_law_read" "_law_read" (defArgs sLread) (defBody sLread) (defScope sLread) .none kV18 dc18 pm18 an18 cd18 ct18), sl18⟩) (c18 : PySem.W.codeIn K cd18 "_law_read" = true) (k18 : PySem.W.keepIn K (.ref f18) = true)
    (a19 : PySem.W.nsIn K mainGlobals "_law_text" = some (some (.ref f19))) (l19 : K.lookup f19 = some ⟨oc19, od19, .func (PySem.W.fnOf "_law_text" "_law_text" (defArgs sLtext) (defBody sLtext) (defScope sLtext) .none kV19 dc19 pm19 an19 cd19 ct19), sl19⟩) (c19 : PySem.W.codeIn K cd19 "_law_text" = true) (k19 : PySem.W.keepIn K (.ref f19) = true)
    (a20 : PySem.W.nsIn K mainGlobals "_law_spoilt" = some (some (.ref f20))) (l20 : K.lookup f20 = some ⟨oc20, od20, .func (PySem.W.fnOf "_law_spoilt" "_law_spoilt" (defArgs sSpoilt) (defBody sSpoilt) (defScope sSpoilt) .none kV20 dc20 pm20 an20 cd20 ct20), sl20⟩) (c20 : PySem.W.codeIn K cd20 "_law_spoilt" = true) (k20 : PySem.W.keepIn K (.ref f20) = true)
    (a21 : PySem.W.nsIn K mainGlobals "_law_word" = some (some (.ref f21))) (l21 : K.lookup f21 = some ⟨oc21, od21, .func (PySem.W.fnOf "_law_word" "_law_word" (defArgs sWord) (defBody sWord) (defScope sWord) .none kV21 dc21 pm21 an21 cd21 ct21), sl21⟩) (c21 : PySem.W.codeIn K cd21 "_law_word" = true) (k21 : PySem.W.keepIn K (.ref f21) = true)
    (a22 : PySem.W.nsIn K mainGlobals "law" = some (some (.ref f22))) (l22 : K.lookup f22 = some ⟨oc22, od22, .func (PySem.W.fnOf "law" "law" (defArgs sLaw) (defBody sLaw) (defScope sLaw) .none kV22 dc22 pm22 an22 (.ref cL) ct22), sl22⟩) (c22 : PySem.W.codeIn K (.ref cL) "law" = true) (k22 : PySem.W.keepIn K (.ref f22) = true)
    (z1 : PySem.W.nsIn K mainGlobals "isinstance" = some none)
    (z2 : PySem.W.nsIn K mainGlobals "int" = some none)
    (z3 : PySem.W.nsIn K mainGlobals "bool" = some none)
    (z4 : PySem.W.nsIn K mainGlobals "str" = some none)
    (z5 : PySem.W.nsIn K mainGlobals "tuple" = some none)
    (z6 : PySem.W.nsIn K mainGlobals "list" = some none)
    (z7 : PySem.W.nsIn K mainGlobals "len" = some none)
    (z8 : PySem.W.nsIn K mainGlobals "all" = some none)
    (z9 : PySem.W.nsIn K mainGlobals "enumerate" = some none)
    (z10 : PySem.W.nsIn K mainGlobals "range" = some none)
    (z11 : PySem.W.nsIn K mainGlobals "max" = some none)
    (z12 : PySem.W.nsIn K mainGlobals "min" = some none)
    (y1 : PySem.W.nsIn K mainGlobals "MOST_BOX" = some (some (.int 100000000 t1)))
    (y2 : PySem.W.nsIn K mainGlobals "MOST_STEPS" = some (some (.int 8 t2)))
    (y3 : PySem.W.nsIn K mainGlobals "MOST_FIGURES" = some (some (.int 9 t3)))
    (xA : PySem.W.nsIn K mainGlobals "AloneError" = some (some (.ref CA)))
    (xT : PySem.W.nsIn K mainGlobals "NoText" = some (some (.ref CT)))
    (xD : PySem.W.nsIn K mainGlobals "NoDealing" = some (some (.ref CD)))
    (xS : PySem.W.nsIn K mainGlobals "NoDealings" = some (some (.ref CS)))
    (e1 : PySem.W.subIn K (.ref CA) (.type "BaseException") = some true)
    (e2 : PySem.W.hasDictIn K CA = true)
    (e3 : PySem.W.typeIn K (.ref CA) = some (.type "type"))
    (w5 : PySem.W.specialIn K (.builtin "object.__class__") "__get__" = some (some (.builtin "getset_descriptor.__get__")))
    (w6 : PySem.W.takesIn K (.builtin "object.__class__") = some true)
    (xXT : PySem.W.excIn K CT [.type "ValueError", .type "Exception", .type "BaseException", .type "object"] "ValueError.__new__" = true)
    (xKT : PySem.W.keepIn K (.ref CT) = true)
    (xBT : PySem.W.subIn K (.ref CT) (.type "BaseException") = some true)
    (xTT : PySem.W.typeIn K (.ref CT) = some (.type "type"))
    (e4T : PySem.W.subIn K (.ref CT) (.ref CA) = some true)
    (w1T : PySem.W.findIn K (.ref CT) "__getattribute__" = some (some (.builtin "BaseException.__getattribute__")))
    (w2T : PySem.W.findIn K (.ref CT) "__getattr__" = some none)
    (w3T : PySem.W.hasDictIn K CT = true)
    (w4T : PySem.W.findIn K (.ref CT) "__class__" = some (some (.builtin "object.__class__")))
    (w7T : PySem.W.mroIn K CT (.type "object") = some true)
    (iTT : PySem.W.kitOne K (.ref CT) (.ref CT) = some true)
    (iTD : PySem.W.kitOne K (.ref CT) (.ref CD) = some false)
    (iTS : PySem.W.kitOne K (.ref CT) (.ref CS) = some false)
    (xXD : PySem.W.excIn K CD [.type "ValueError", .type "Exception", .type "BaseException", .type "object"] "ValueError.__new__" = true)
    (xKD : PySem.W.keepIn K (.ref CD) = true)
    (xBD : PySem.W.subIn K (.ref CD) (.type "BaseException") = some true)
    (xTD : PySem.W.typeIn K (.ref CD) = some (.type "type"))
    (e4D : PySem.W.subIn K (.ref CD) (.ref CA) = some true)
    (w1D : PySem.W.findIn K (.ref CD) "__getattribute__" = some (some (.builtin "BaseException.__getattribute__")))
    (w2D : PySem.W.findIn K (.ref CD) "__getattr__" = some none)
    (w3D : PySem.W.hasDictIn K CD = true)
    (w4D : PySem.W.findIn K (.ref CD) "__class__" = some (some (.builtin "object.__class__")))
    (w7D : PySem.W.mroIn K CD (.type "object") = some true)
    (iDT : PySem.W.kitOne K (.ref CD) (.ref CT) = some false)
    (iDD : PySem.W.kitOne K (.ref CD) (.ref CD) = some true)
    (iDS : PySem.W.kitOne K (.ref CD) (.ref CS) = some false)
    (dLa : PySem.W.nsIn K mainGlobals "LETTERS" = some (some (.ref dL)))
    (dLl : K.lookup dL = some ⟨.type "dict", none, .dict #[⟨hh1, .str "read" tt1, .str "r" tt2⟩, ⟨hh2, .str "write" tt3, .str "w" tt4⟩] nL, #[]⟩)
    (dLk : PySem.W.KeysLit w.params [⟨hh1, .str "read" tt1, .str "r" tt2⟩, ⟨hh2, .str "write" tt3, .str "w" tt4⟩])
    (dWa : PySem.W.nsIn K mainGlobals "WORDS" = some (some (.ref dW)))
    (dWl : K.lookup dW = some ⟨.type "dict", none, .dict #[⟨hh3, .str "r" tt5, .str "read" tt6⟩, ⟨hh4, .str "w" tt7, .str "write" tt8⟩] nW, #[]⟩)
    (dWk : PySem.W.KeysLit w.params [⟨hh3, .str "r" tt5, .str "read" tt6⟩, ⟨hh4, .str "w" tt7, .str "write" tt8⟩])
    (dWs : (dW == sysModules) = false)
    (tP : h.get? pL = some { cls := .none, data := .fields #[] })
    (nP : K.lookup pL = none)
    (hC : PySem.W.codeHdIn K cL pL = true)
    : LamX.LawAtS l w K CX0 10 63 "_law_script" mg fa h := by
  have e := hfa.symm.trans (PySem.W.mg_of X G a22)
  cases e
  have F1 := fun_mk (st := sIsWhole) l1 c1 k1
  have b1 := F1.binds (ps := ["thing"]) fun _ _ _ _ _ _ us hl => match us, hl with | [_], _ => rfl
  have g1 := PySem.W.mg_of X G a1
  have F2 := fun_mk (st := sIsNumber) l2 c2 k2
  have b2 := F2.binds (ps := ["thing", "many"]) fun _ _ _ _ _ _ us hl => match us, hl with | [_, _], _ => rfl
  have g2 := PySem.W.mg_of X G a2
  have F3 := fun_mk (st := sIsBox) l3 c3 k3
  have b3 := F3.binds (ps := ["thing"]) fun _ _ _ _ _ _ us hl => match us, hl with | [_], _ => rfl
  have g3 := PySem.W.mg_of X G a3
  have F4 := fun_mk (st := sIsOneOf) l4 c4 k4
  have b4 := F4.binds (ps := ["thing", "words"]) fun _ _ _ _ _ _ us hl => match us, hl with | [_, _], _ => rfl
  have g4 := PySem.W.mg_of X G a4
  have F5 := fun_mk (st := sIsStep) l5 c5 k5
  have b5 := F5.binds (ps := ["thing"]) fun _ _ _ _ _ _ us hl => match us, hl with | [_], _ => rfl
  have g5 := PySem.W.mg_of X G a5
  have F6 := fun_mk (st := sMayFollow) l6 c6 k6
  have b6 := F6.binds (ps := ["step", "ahead"]) fun _ _ _ _ _ _ us hl => match us, hl with | [_, _], _ => rfl
  have g6 := PySem.W.mg_of X G a6
  have F7 := fun_mk (st := sIsDealing) l7 c7 k7
  have b7 := F7.binds (ps := ["thing"]) fun _ _ _ _ _ _ us hl => match us, hl with | [_], _ => rfl
  have g7 := PySem.W.mg_of X G a7
  have F8 := fun_mk (st := sCheck) l8 c8 k8
  have b8 := F8.binds (ps := ["thing"]) fun _ _ _ _ _ _ us hl => match us, hl with | [_], _ => rfl
  have g8 := PySem.W.mg_of X G a8
  have F9 := fun_mk (st := sText) l9 c9 k9
  have b9 := F9.binds (ps := ["dealing"]) fun _ _ _ _ _ _ us hl => match us, hl with | [_], _ => rfl
  have g9 := PySem.W.mg_of X G a9
  have F10 := fun_mk (st := sFigures) l10 c10 k10
  have b10 := F10.binds (ps := ["text"]) fun _ _ _ _ _ _ us hl => match us, hl with | [_], _ => rfl
  have g10 := PySem.W.mg_of X G a10
  have F11 := fun_mk (st := sRdStep) l11 c11 k11
  have b11 := F11.binds (ps := ["word"]) fun _ _ _ _ _ _ us hl => match us, hl with | [_], _ => rfl
  have g11 := PySem.W.mg_of X G a11
  have F12 := fun_mk (st := sRdDeal) l12 c12 k12
  have b12 := F12.binds (ps := ["text"]) fun _ _ _ _ _ _ us hl => match us, hl with | [_], _ => rfl
  have g12 := PySem.W.mg_of X G a12
  have F13 := fun_mk (st := sCellAt) l13 c13 k13
  have b13 := F13.binds (ps := ["_law_script", "_law_k"]) fun _ _ _ _ _ _ us hl => match us, hl with | [_, _], _ => rfl
  have g13 := PySem.W.mg_of X G a13
  have F14 := fun_mk (st := sDigit) l14 c14 k14
  have b14 := F14.binds (ps := ["_law_state", "_law_base"]) fun _ _ _ _ _ _ us hl => match us, hl with | [_, _], _ => rfl
  have g14 := PySem.W.mg_of X G a14
  have F15 := fun_mk (st := sBox) l15 c15 k15
  have b15 := F15.binds (ps := ["_law_state", "_law_few"]) fun _ _ _ _ _ _ us hl => match us, hl with | [_, _], _ => rfl
  have g15 := PySem.W.mg_of X G a15
  have F16 := fun_mk (st := sDealing) l16 c16 k16
  have b16 := F16.binds (ps := ["_law_state", "_law_few", "_law_most"]) fun _ _ _ _ _ _ us hl => match us, hl with | [_, _, _], _ => rfl
  have g16 := PySem.W.mg_of X G a16
  have F17 := fun_mk (st := sNumber) l17 c17 k17
  have b17 := F17.binds (ps := ["_law_word_here"]) fun _ _ _ _ _ _ us hl => match us, hl with | [_], _ => rfl
  have g17 := PySem.W.mg_of X G a17
  have F18 := fun_mk (st := sLread) l18 c18 k18
  have b18 := F18.binds (ps := ["_law_text_here"]) fun _ _ _ _ _ _ us hl => match us, hl with | [_], _ => rfl
  have g18 := PySem.W.mg_of X G a18
  have F19 := fun_mk (st := sLtext) l19 c19 k19
  have b19 := F19.binds (ps := ["_law_dealing_here"]) fun _ _ _ _ _ _ us hl => match us, hl with | [_], _ => rfl
  have g19 := PySem.W.mg_of X G a19
  have F20 := fun_mk (st := sSpoilt) l20 c20 k20
  have b20 := F20.binds (ps := ["_law_state", "_law_text_here"]) fun _ _ _ _ _ _ us hl => match us, hl with | [_, _], _ => rfl
  have g20 := PySem.W.mg_of X G a20
  have F21 := fun_mk (st := sWord) l21 c21 k21
  have b21 := F21.binds (ps := ["_law_ask"]) fun _ _ _ _ _ _ us hl => match us, hl with | [_], _ => rfl
  have g21 := PySem.W.mg_of X G a21
  have M : Mg mg := ⟨PySem.W.mg_none_of X G z1, PySem.W.mg_none_of X G z2, PySem.W.mg_none_of X G z3, PySem.W.mg_none_of X G z4, PySem.W.mg_none_of X G z5, PySem.W.mg_none_of X G z6, PySem.W.mg_none_of X G z7, PySem.W.mg_none_of X G z8, PySem.W.mg_none_of X G z9, PySem.W.mg_none_of X G z10, PySem.W.mg_none_of X G z11, PySem.W.mg_none_of X G z12, ⟨_, PySem.W.mg_of X G y1⟩, ⟨_, PySem.W.mg_of X G y2⟩, ⟨_, PySem.W.mg_of X G y3⟩⟩
  have ET : Er K mg "NoText" CA CT := ⟨PySem.W.mg_of X G xT, xXT, xKT, xBT, xTT, PySem.W.exm_ref e1 e2 e3 e4T, ⟨w1T, w2T, xBT, w3T, w4T, w5, w6, w7T⟩⟩
  have ED : Er K mg "NoDealing" CA CD := ⟨PySem.W.mg_of X G xD, xXD, xKD, xBD, xTD, PySem.W.exm_ref e1 e2 e3 e4D, ⟨w1D, w2D, xBD, w3D, w4D, w5, w6, w7D⟩⟩
  have T : Tl K mg CA CT CD CS := ⟨PySem.W.mg_of X G xA, PySem.W.mg_of X G xT, PySem.W.mg_of X G xD, PySem.W.mg_of X G xS⟩
  have KT : Ki K CT CA CT CD CS true false := ⟨PySem.W.exm_ref e1 e2 e3 e4T, ⟨w1T, w2T, xBT, w3T, w4T, w5, w6, w7T⟩, iTT, iTD, iTS⟩
  have KD : Ki K CD CA CT CD CS false true := ⟨PySem.W.exm_ref e1 e2 e3 e4D, ⟨w1D, w2D, xBD, w3D, w4D, w5, w6, w7D⟩, iDT, iDD, iDS⟩
  have Z : Dc K w mg dL dW := dc_of (PySem.W.mg_of X G dLa) (PySem.W.mg_of X G dWa) dLl dLk dWl dWk dWs
  refine ⟨PySem.W.fnOf "law" "law" (defArgs sLaw) (defBody sLaw) (defScope sLaw) .none kV22 dc22 pm22 an22 (.ref cL) ct22, [(cL, pL)], spLaw K pL, fun p hp => by rw [List.mem_singleton.mp hp]; exact tP, fun p hp => by rw [List.mem_singleton.mp hp]; exact nP, fun p hp => by rw [List.mem_singleton.mp hp]; exact PySem.W.codeHd_of_K X hC, fun s v => .of_eq rfl,
    fun H a ns hl _ hT hS => ⟨a, ns, rfl, hS, hl, fun p hp => by rw [List.mem_singleton.mp hp]; exact LamX.TabS.nil (hT (cL, pL) (List.mem_singleton.mpr rfl)), fun _ => rfl⟩, fun base _ _ hTB => ?_⟩
  have TB : LamX.TabB base mg cL pL := hTB (cL, pL) (List.mem_singleton.mpr rfl)
  have W1 := fun k => ok_is_whole (P := l.prog) (w := w) (base := base) (k := k) F1 M
  have W2 := fun k => ok_is_number (k := k + 1) F2 M (W1 k) g1 k1 b1
  have W3 := fun k => ok_is_box (k := k + 2) F3 M (W2 k) g2 k2 b2
  have W4 := fun k => ok_is_one_of (P := l.prog) (w := w) (base := base) (k := k) F4 M
  have W5 := fun k => ok_is_step (k := k + 3) F5 M (W4 (k + 2)) g4 k4 b4 (W3 k) g3 k3 b3
  have W6 := fun k => ok_may_follow (P := l.prog) (w := w) (base := base) (k := k) F6 M
  have W7 := fun k => ok_is_dealing (k := k + 4) F7 M (W5 k) g5 k5 b5 (W6 (k + 3)) g6 k6 b6
  have W8 := ok_check (k := 5) F8 ED (W7 0) g7 k7 b7
  have W9 := ok_text (k := 6) F9 M Z W8 g8 k8 b8
  have W10 := ok_figures (P := l.prog) (w := w) (base := base) (k := 4) F10 M
  have W11 := ok_rdstep (k := 5) F11 M Z W10 g10 k10 b10
  have W12 := ok_rddeal (k := 6) F12 M ET W11 g11 k11 b11 (W7 1) g7 k7 b7
  have D := fun k => ok_digit (P := l.prog) (w := w) (base := base) (k := k) F14 M
  have B := fun k => ok_box (k := k + 1) F15 M (D k) g14 k14 b14
  have N := ok_number (P := l.prog) (w := w) (base := base) (k := 7) F17 M
  exact ok_law (k := 7) l22 c22 F21 g21 b21 TB M T KT KD (fun k => ⟨f13, _, ok_cell_at F13 M, g13, k13, b13⟩) (fun k => ⟨f14, _, D k, g14, k14, b14⟩) ⟨f16, _, ok_dealing (k := 8) F16 M (D 7) g14 k14 b14 (B 6) g15 k15 b15, g16, k16, b16⟩
    ⟨f19, _, ok_ltext (k := 8) F19 M, g19, k19, b19⟩ ⟨f20, _, ok_spoilt (k := 8) F20 M (D 7) g14 k14 b14, g20, k20, b20⟩ ⟨f18, _, ok_lread (k := 8) F18 M N g17 k17 b17, g18, k18, b18⟩ ⟨f9, _, W9, g9, k9, b9⟩ ⟨f12, _, W12, g12, k12, b12⟩
end As
open PySem PySem.W PyProof.Rows
set_option maxHeartbeats 0 in
theorem PySem.Challenge.cw_asifalone_k03_dealings_as_texts_holds : PySem.Challenge.rw_asifalone_k03_dealings_as_texts.Holds := by
  w_on; o_law; k_head; (case hw => w_witness2)
  k_fill
  refine LamX.walk_ofTs (l := PySem.Challenge.rw_asifalone_k03_dealings_as_texts) (n := 63) (k := 10) (x := "_law_script") (CX := fun _ => L2.CX0) rfl (by decide) rfl ⟨rfl, by decide, by decide⟩ (fun w h Y => PySem.W.km_in_of Y) ?F (fun _ _ _ _ _ h => h)
  case F =>
    intro w mg fa h Y KX G hmg
    refine' As.all_mk KX G hmg ?a1 ?l1 ?c1 ?k1 ?a2 ?l2 ?c2 ?k2 ?a3 ?l3 ?c3 ?k3 ?a4 ?l4 ?c4 ?k4 ?a5 ?l5 ?c5 ?k5 ?a6 ?l6 ?c6 ?k6 ?a7 ?l7 ?c7 ?k7 ?a8 ?l8 ?c8 ?k8 ?a9 ?l9 ?c9 ?k9 ?a10 ?l10 ?c10 ?k10 ?a11 ?l11 ?c11 ?k11 ?a12 ?l12 ?c12 ?k12 ?a13 ?l13 ?c13 ?k13 ?a14 ?l14 ?c14 ?k14 ?a15 ?l15 ?c15 ?k15 ?a16 ?l16 ?c16 ?k16 ?a17 ?l17 ?c17 ?k17 ?a18 ?l18 ?c18 ?k18 ?a19 ?l19 ?c19 ?k19 ?a20 ?l20 ?c20 ?k20 ?a21 ?l21 ?c21 ?k21 ?a22 ?l22 ?c22 ?k22 ?z1 ?z2 ?z3 ?z4 ?z5 ?z6 ?z7 ?z8 ?z9 ?z10 ?z11 ?z12 ?y1 ?y2 ?y3 ?xA ?xT ?xD ?xS ?e1 ?e2 ?e3 ?w5 ?w6 ?xXT ?xKT ?xBT ?xTT ?e4T ?w1T ?w2T ?w3T ?w4T ?w7T ?iTT ?iTD ?iTS ?xXD ?xKD ?xBD ?xTD ?e4D ?w1D ?w2D ?w3D ?w4D ?w7D ?iDT ?iDD ?iDS ?dLa ?dLl ?dLk ?dWa ?dWl ?dWk ?dWs ?tP ?nP ?hC
    (case tP => exact PySem.W.km_tabs_of Y _ (List.mem_cons_self ..))
    (case a1 => k_is); (case l1 => k_is); (case c1 => k_is); (case k1 => k_is); (case a2 => k_is); (case l2 => k_is); (case c2 => k_is); (case k2 => k_is); (case a3 => k_is); (case l3 => k_is); (case c3 => k_is); (case k3 => k_is); (case a4 => k_is); (case l4 => k_is); (case c4 => k_is); (case k4 => k_is); (case a5 => k_is); (case l5 => k_is); (case c5 => k_is); (case k5 => k_is); (case a6 => k_is); (case l6 => k_is); (case c6 => k_is); (case k6 => k_is); (case a7 => k_is); (case l7 => k_is); (case c7 => k_is); (case k7 => k_is); (case a8 => k_is); (case l8 => k_is); (case c8 => k_is); (case k8 => k_is); (case a9 => k_is); (case l9 => k_is); (case c9 => k_is); (case k9 => k_is); (case a10 => k_is); (case l10 => k_is); (case c10 => k_is); (case k10 => k_is); (case a11 => k_is); (case l11 => k_is); (case c11 => k_is); (case k11 => k_is); (case a12 => k_is); (case l12 => k_is); (case c12 => k_is); (case k12 => k_is); (case a13 => k_is); (case l13 => k_is); (case c13 => k_is); (case k13 => k_is); (case a14 => k_is); (case l14 => k_is); (case c14 => k_is); (case k14 => k_is); (case a15 => k_is); (case l15 => k_is); (case c15 => k_is); (case k15 => k_is); (case a16 => k_is); (case l16 => k_is); (case c16 => k_is); (case k16 => k_is); (case a17 => k_is); (case l17 => k_is); (case c17 => k_is); (case k17 => k_is); (case a18 => k_is); (case l18 => k_is); (case c18 => k_is); (case k18 => k_is); (case a19 => k_is); (case l19 => k_is); (case c19 => k_is); (case k19 => k_is); (case a20 => k_is); (case l20 => k_is); (case c20 => k_is); (case k20 => k_is); (case a21 => k_is); (case l21 => k_is); (case c21 => k_is); (case k21 => k_is); (case a22 => k_is); (case l22 => k_is); (case c22 => k_is); (case k22 => k_is); (case z1 => k_is); (case z2 => k_is); (case z3 => k_is); (case z4 => k_is); (case z5 => k_is); (case z6 => k_is); (case z7 => k_is); (case z8 => k_is); (case z9 => k_is); (case z10 => k_is); (case z11 => k_is); (case z12 => k_is); (case y1 => k_is); (case y2 => k_is); (case y3 => k_is); (case xA => k_is); (case xT => k_is); (case xD => k_is); (case xS => k_is); (case e1 => k_is); (case e2 => k_is); (case e3 => k_is); (case w5 => k_is); (case w6 => k_is); (case xXT => k_exc); (case xKT => k_is); (case xBT => k_is); (case xTT => k_is); (case e4T => k_is); (case w1T => k_is); (case w2T => k_is); (case w3T => k_is); (case w4T => k_is); (case w7T => k_is); (case iTT => first | k_is | kernel_rfl | rfl); (case iTD => first | k_is | kernel_rfl | rfl); (case iTS => first | k_is | kernel_rfl | rfl); (case xXD => k_exc); (case xKD => k_is); (case xBD => k_is); (case xTD => k_is); (case e4D => k_is); (case w1D => k_is); (case w2D => k_is); (case w3D => k_is); (case w4D => k_is); (case w7D => k_is); (case iDT => first | k_is | kernel_rfl | rfl); (case iDD => first | k_is | kernel_rfl | rfl); (case iDS => first | k_is | kernel_rfl | rfl); (case dLa => k_is); (case dLl => k_is); (case dLk => exact ⟨⟨_, _, rfl, rfl⟩, ⟨_, _, rfl, rfl⟩, trivial⟩); (case dWa => k_is); (case dWl => k_is); (case dWk => exact ⟨⟨_, _, rfl, rfl⟩, ⟨_, _, rfl, rfl⟩, trivial⟩); (case dWs => first | k_is | kernel_rfl | rfl); (case nP => first | k_is | kernel_rfl | rfl); (case hC => first | k_is | kernel_rfl | rfl)
