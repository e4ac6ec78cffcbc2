import PyProof.Rows.All
import Wide.All
import OpenK.AllK
import Wide.FinOn
import PyProof.StationsW
import PyProof.RulesAs
import Lean
import PyProof.EqAt
import PyProof.EqKinds
import PyProof.TupleCall
import PyProof.DictWalks
import PyProof.MinMaxWalk
import PyProof.ListRange
import PyProof.WalkInts
import PyProof.SeqI3
import PyProof.SliceList
import KE.KSortTup
import PySem.Challenge.RW_strewn_k70_whole_worst
set_option maxRecDepth 100000
namespace PySem
open Sem (wp)
noncomputable def RecAt (h : Heap) (e : Addr) (cls : Value) (vs : Array Value) : Prop := ∃ oe, h.get? e = some oe ∧ (oe.cls = cls ∧ oe.dict = none) ∧ oe.data = .fields vs
theorem RecAt.keep {h h' : Heap} {e : Addr} {cls : Value} {vs : Array Value} (x : RecAt h e cls vs) (k : ∀ o, h.get? e = some o → h'.get? e = some o) : RecAt h' e cls vs := let ⟨o, a, r⟩ := x; ⟨o, k o a, r⟩
theorem RecAt.no_field {h : Heap} {e b : Addr} {cls : Value} {vs : Array Value} (x : RecAt h e cls vs) {o : Obj} (hb : h.get? b = some o) (hn : ∀ ws, o.data ≠ .fields ws) : b ≠ e := fun q => by
  obtain ⟨oe, he, _, hd⟩ := x
  rw [q, he] at hb; cases hb; exact hn vs hd
theorem RecAt.set {h : Heap} {e : Addr} {cls : Value} {vs : Array Value} (x : RecAt h e cls vs) (i : Nat) (v : Value) : RecAt (h.update e (Obj.mapFields (·.setIfInBounds i v))) e cls (vs.setIfInBounds i v) := by
  obtain ⟨oe, he, hc, hd⟩ := x
  have hd' := Obj.data_mapFields hd (·.setIfInBounds i v)
  refine ⟨_, Heap.get?_update_self _ he (Obj.isFreed_of_fields hd'), ⟨(Obj.cls_mapFields _ _).trans hc.1, ?_⟩, hd'⟩
  obtain ⟨c, d, dt, sl⟩ := oe
  have hd2 : dt = .fields vs := hd
  subst hd2
  exact hc.2
theorem get_upd_ne {h : Heap} {e b : Addr} {f : Obj → Obj} {o : Obj} (hb : b ≠ e) (q : h.get? b = some o) : (h.update e f).get? b = some o := by
  rw [Heap.get?_update_other _ _ (Ne.symm hb)]; exact q
noncomputable def InAir (B h : Heap) (l : List Env) (e : Addr) (cls : Value) (f : Option Value) : Prop :=
  B.StaysIn h ∧ B.get? e = none ∧ h.FunFrames B l ∧ ∃ vs, RecAt h e cls vs ∧ vs[2]? = some .none ∧
    match f with
    | none => vs[1]? = some .none
    | some x => ∃ T ts c, vs[1]? = some (.ref T) ∧ B.get? T = none ∧ T ≠ e ∧ RecAt h T c ts ∧ ts[3]? = some x
theorem InAir.fewer {B h : Heap} {env : Env} {l : List Env} {e : Addr} {cls : Value} {f : Option Value} (x : InAir B h (env :: l) e cls f) : InAir B h l e cls f := by
  obtain ⟨a, b, ⟨_, _, c⟩, d⟩ := x; exact ⟨a, b, c, d⟩
section
variable {M : Model} {A : Around} {E : Value → Shared → Prop} {s : Shared}
theorem air_entry {B : Heap} {env : Env} {outer : List Env} {L e : Addr} {cls head : Value} {vs : Array Value} {hadNext : Bool} {Q : Unit → Shared → Prop}
    (hfr : A.frames = some (env :: outer)) (hf : env.frame = some L) (hB : B.StaysIn s.heap) (hl : s.heap.FunFrames B (env :: outer)) (he : RecAt s.heap e cls vs) (hen : B.get? e = none) (h1 : 1 < vs.size) (h2 : vs[2]? = some .none)
    (h : ∀ h', InAir B h' (env :: outer) e cls (some (rawInt L)) → s.heap.UpToSlots h' → Q () { s with heap := h' }) :
    wpAny M A (do let a ← frameOf env; let pl ← entryPlaceOf L hadNext; let b ← EntryCells.newEntry head a .none (rawInt L) .none pl; setField (.ref e) 1 b) Q E s := by
  refine wpAny_bind (wpAny_frameOf_fun hfr hl hf fun h₁ hs₁ => wpAny_bind (wpAny_entryPlaceOf fun pl hpl => ?_))
  unfold EntryCells.newEntry newFields
  refine wpAny_bind (wpAny_newObj_type ?_ (hpl.sizeOk5 _ _ _ _ _))
  have nf : ∀ b, b ∈ (env :: outer).filterMap (·.frame) → b ≠ e := fun b hm => by
    obtain ⟨_, o, ho, hn⟩ := hl.mem hm
    exact he.no_field ho hn
  have he₁ : RecAt h₁ e cls vs := he.keep fun o q => (hs₁.2.1 e fun hm => nf e hm rfl).trans q
  obtain ⟨oe, ge, ce, de⟩ := id he₁
  have hTe : h₁.objs.size ≠ e := Nat.ne_of_gt (Heap.lt_size ge)
  refine wpAny_setField (Heap.get?_push_of_some _ ge) de h1 ?_
  have keep : ∀ (x : Obj) b o, b ≠ e → h₁.get? b = some o → ((h₁.push x).update e (Obj.mapFields (·.setIfInBounds 1 (Value.ref h₁.objs.size)))).get? b = some o := fun x b o hb q => get_upd_ne hb (Heap.get?_push_of_some _ q)
  have kB : B.StaysIn h₁ := fun b o q => (hs₁.2.1 b fun hm => by rw [(hl.mem hm).1] at q; cases q).trans (hB b o q)
  refine h _ ⟨fun b o q => keep _ b o (fun z => by rw [z, hen] at q; cases q) (kB b o q), hen, hl.of_keeps fun b o hb hn => ?_, _, RecAt.set (he₁.keep fun o q => Heap.get?_push_of_some _ q) 1 _, ?_, h₁.objs.size, _, _, ?_, kB.fresh, hTe, ⟨_, get_upd_ne hTe (Heap.get?_push_size h₁ rfl), ⟨rfl, rfl⟩, rfl⟩, ?_⟩ fun b o hb hn => ?_
  · obtain ⟨sl, q⟩ := hs₁.2.2 b o hb
    exact ⟨_, keep _ b _ (he.no_field hb hn) q, rfl⟩
  · rw [Array.getElem?_setIfInBounds_ne (by decide)]; exact h2
  · simp [h1]
  · first | (simp; done) | (rcases hpl with rfl | ⟨_, _, _, _, _, _, _, rfl⟩ <;> simp)
  · obtain ⟨sl, q⟩ := hs₁.2.2 b o hb
    exact ⟨sl, keep _ b _ (he.no_field hb hn) q⟩
theorem air_note {B : Heap} {env : Env} {outer : List Env} {L e : Addr} {cls : Value} {f : Option Value} {Q : Unit → Shared → Prop}
    (hfr : A.frames = some (env :: outer)) (hf : env.frame = some L) (x : InAir B s.heap (env :: outer) e cls f) (hx : f = none ∨ f = some .none ∨ f = some (rawInt L))
    (h : ∀ h', InAir B h' (env :: outer) e cls (some (rawInt L)) → s.heap.UpToSlots h' → Q () { s with heap := h' }) : wpAny M A (noteFrame (.ref e) env) Q E s := by
  obtain ⟨hB, hen, hl, vs, he, h2, hm⟩ := id x
  have z2 : 2 < vs.size := (Array.getElem?_eq_some_iff.mp h2).1
  obtain ⟨oe, ge, ce, de⟩ := id he
  unfold noteFrame
  simp only [hf]
  rcases hx with rfl | rfl | rfl
  · refine wpAny_bind (wpAny_field ge de hm ?_)
    rw [if_neg (by decide)]
    exact air_entry hfr hf hB hl he hen (Nat.lt_of_succ_lt z2) h2 h
  · obtain ⟨T, ts, c, t1, tB, tne, hT, t3⟩ := hm
    obtain ⟨oT, gT, cT, dT⟩ := id hT
    refine wpAny_bind (wpAny_field ge de t1 ?_)
    rw [if_pos (show (Value.ref T != Value.none) = true from by simp)]
    refine wpAny_bind (wpAny_field gT dT t3 ?_)
    rw [if_neg (show ¬ ((Value.none == rawInt L) = true) from by simp [rawInt])]
    refine wpAny_bind (wpAny_setField gT dT (Array.getElem?_eq_some_iff.mp t3).1 ?_)
    refine air_entry hfr hf (fun b o q => get_upd_ne (fun z => by rw [z, tB] at q; cases q) (hB b o q)) (hl.of_keeps fun b o hb hn => ⟨o, get_upd_ne (hT.no_field hb hn) hb, rfl⟩) (he.keep fun o q => get_upd_ne (Ne.symm tne) q) hen (Nat.lt_of_succ_lt z2) h2 fun h' a b => h h' a fun b' o hb hn => ?_
    exact b b' o (get_upd_ne (hT.no_field hb hn) hb) hn
  · obtain ⟨T, ts, c, t1, tB, tne, hT, t3⟩ := hm
    obtain ⟨oT, gT, cT, dT⟩ := id hT
    refine wpAny_bind (wpAny_field ge de t1 ?_)
    rw [if_pos (show (Value.ref T != Value.none) = true from by simp)]
    refine wpAny_bind (wpAny_field gT dT t3 ?_)
    rw [if_pos (show (rawInt L == rawInt L) = true from by simp)]
    exact wpAny_pure (h s.heap x (.refl _))
theorem air_mark {B : Heap} {l : List Env} {e : Addr} {cls x : Value} {fr : Option Addr} {Q : Unit → Shared → Prop} (hx : InAir B s.heap l e cls (some x))
    (h : ∀ h', InAir B h' l e cls (some (fr.elim .none fun f => rawInt f)) → s.heap.UpToSlots h' → Q () { s with heap := h' }) : wpAny M A (setFlight (.ref e) fr) Q E s := by
  obtain ⟨hB, hen, hl, vs, he, h2, T, ts, c, t1, tB, tne, hT, t3⟩ := hx
  obtain ⟨oe, ge, ce, de⟩ := id he
  obtain ⟨oT, gT, cT, dT⟩ := id hT
  have z3 : 3 < ts.size := (Array.getElem?_eq_some_iff.mp t3).1
  unfold setFlight
  refine wpAny_bind (wpAny_field ge de t1 ?_)
  rw [if_pos (show (Value.ref T != Value.none) = true from by simp)]
  refine wpAny_setField gT dT z3 (h _ ⟨fun b o q => get_upd_ne (fun z => by rw [z, tB] at q; cases q) (hB b o q), hen, hl.of_keeps fun b o hb hn => ⟨o, get_upd_ne (hT.no_field hb hn) hb, rfl⟩, vs, he.keep fun o q => get_upd_ne (Ne.symm tne) q, h2, T, _, c, t1, tB, tne, hT.set 3 _, ?_⟩ fun b o hb hn => ⟨o.slots, get_upd_ne (hT.no_field hb hn) hb⟩)
  simp [z3]
theorem air_leave {B : Heap} {env : Env} {outer : List Env} {L e : Addr} {cls : Value} {f : Option Value} {Q : Unit → Shared → Prop}
    (hfr : A.frames = some (env :: outer)) (hf : env.frame = some L) (x : InAir B s.heap (env :: outer) e cls f) (hx : f = none ∨ f = some .none ∨ f = some (rawInt L))
    (h : ∀ h', InAir B h' outer e cls (some .none) → s.heap.UpToSlots h' → Q () { s with heap := h' }) : wpAny M A (leaving env (.ref e)) Q E s := by
  unfold leaving
  refine wpAny_bind (air_note hfr hf x hx fun h₁ x₁ u₁ => ?_)
  exact air_mark (fr := none) x₁ fun h₂ x₂ u₂ => h h₂ x₂.fewer (u₁.trans u₂)
theorem air_back {B : Heap} {env : Env} {l : List Env} {L e : Addr} {cls : Value} (hf : env.frame = some L) {E' : Value → Shared → Prop} (x : InAir B s.heap l e cls (some (rawInt L)))
    (h : ∀ h', InAir B h' l e cls (some (rawInt L)) → s.heap.UpToSlots h' → E' (.ref e) { s with heap := h' }) : cameBackBy M A env E' (.ref e) s := by
  obtain ⟨hB, hen, hl, vs, he, h2, T, ts, c, t1, tB, tne, hT, t3⟩ := id x
  obtain ⟨oe, ge, ce, de⟩ := id he
  unfold cameBackBy
  refine wpAny_bind (wpAny_field ge de t1 ?_)
  rw [if_neg (by simp)]
  rw [hf]
  exact air_mark (fr := some L) x h
end
end PySem
set_option Elab.async false
set_option linter.all false
set_option maxRecDepth 100000
set_option maxRecDepth 100000
namespace PySem
open Sem (wp)
section
variable {prog : Program} {w : World} {A : Around} {E : Value → Shared → Prop} {s : Shared}
theorem entry_unchain : entryFor table "proto.unchain" = some Builtin.«proto.unchain» := entryFor_of_fast (by kernel_rfl)
noncomputable def HdAt (A : Around) (h : Heap) : Prop := A.handled = none ∨ ∃ a o vs, A.handled = some (.ref a) ∧ h.get? a = some o ∧ o.data = .fields vs ∧ vs[2]? = some .none
theorem HdAt.keeps {A : Around} {h h' : Heap} (x : HdAt A h) (k : ∀ a o, A.handled = some (.ref a) → h.get? a = some o → h'.get? a = some o) : HdAt A h' := by
  rcases x with x | ⟨a, o, vs, e, ha, r⟩
  · exact .inl x
  · exact .inr ⟨a, o, vs, e, k a o e ha, r⟩
theorem raise_any {α : Type} {e : Addr} {oe : Obj} {ws : Array Value} {Q : α → Shared → Prop}
    (he : s.heap.get? e = some oe) (hd : oe.data = .fields ws) (hz : 2 < ws.size) (hne : A.handled ≠ some (.ref e)) (hh : HdAt A s.heap)
    (h : ∀ h' oe', h'.get? e = some oe' → oe'.cls = oe.cls → (∀ b o, b ≠ e → s.heap.get? b = some o → h'.get? b = some o) → E (.ref e) { s with heap := h' }) :
    wpAny (model prog w) A (raiseNew (.ref e) : Sem α) Q E s := by
  rcases hh with hh | ⟨a, o, vs, hh, ha, hda, h2⟩
  · exact wpAny_raiseNew_none hh (h s.heap oe he rfl fun _ _ _ q => q)
  · have hae : a ≠ e := fun q => hne (by rw [hh, q])
    unfold raiseNew
    refine wpAny_bind (wpAny_handled ?_)
    rw [hh]
    show wpAny _ _ (if (Value.ref a != Value.ref e) = true then (holding [Value.ref e] (runValue (Code.builtin "proto.unchain" { pos := [Value.ref e, .ref a, .ref a, Value.bool false] })) >>= fun _ => updateField e 2 (.ref a) >>= fun _ => throw (Value.ref e)) else throw (Value.ref e)) _ _ _
    rw [if_pos (by simp [hae])]
    refine wpAny_bind (wpAny_holding (wpAny_runValue (codeAny_builtin entry_unchain ?_)))
    unfold Builtin.«proto.unchain»
    refine wpAny_bind (wpAny_field ha hda h2 ?_)
    simp only [beq_self_eq_true, if_true]
    refine wpAny_pure ?_
    show wpAny _ _ _ _ _ _
    refine wpAny_bind ?_
    refine wpAny_setField (i := 2) he hd hz (wpAny_throw (h _ _ (Heap.get?_update_self _ he (Obj.isFreed_of_fields (Obj.data_mapFields hd _))) (Obj.cls_mapFields _ _) fun b o' hb q => ?_))
    rw [Heap.get?_update_other _ _ (Ne.symm hb)]
    exact q
theorem HdAt.ne_new {A : Around} {h : Heap} (x : HdAt A h) {e : Addr} (he : h.get? e = none) : A.handled ≠ some (.ref e) := fun q => by
  rcases x with x | ⟨a, o, vs, z, ha, _⟩
  · rw [x] at q; cases q
  · rw [z] at q; cases q; rw [he] at ha; cases ha
theorem stop_raised {α : Type} {Q : α → Shared → Prop} (hh : HdAt A s.heap)
    (h : ∀ h' e oe, h'.get? e = some oe → oe.cls = .type "StopIteration" → (∀ b o, s.heap.get? b = some o → h'.get? b = some o) → E (.ref e) { s with heap := h' }) :
    wpAny (model prog w) A (newExc (.type "StopIteration") [] >>= fun e => (raiseNew e : Sem α)) Q E s := by
  refine wpAny_bind ?_
  simp only [newExc, newTuple]
  refine wpAny_bind (wpAny_newObj_type ?_ (by size_fits))
  refine wpAny_bind (m := firstArgMember _ _) (wpAny_of_eq (a := Value.none) (by first | rfl | (simp only [firstArgMember]; rfl)) ?_)
  refine wpAny_newObj_type ?_ (by size_fits)
  have k : ∀ b o, s.heap.get? b = some o → ((s.heap.push { cls := .type "tuple", dict := none, data := .seq ([] : List Value).toArray }).push { cls := .type "StopIteration", dict := none, data := .fields (#[Value.ref s.heap.objs.size, .none, .none, .none, .bool false, .none] ++ ownMembersOf (.type "StopIteration") []) }).get? b = some o :=
    fun b o q => Heap.get?_push_of_some _ (Heap.get?_push_of_some _ q)
  have ne : A.handled ≠ some (.ref (s.heap.push { cls := .type "tuple", dict := none, data := .seq ([] : List Value).toArray }).objs.size) := hh.ne_new (Heap.get?_none_of_le (by rw [Heap.size_push]; exact Nat.le_succ _))
  refine raise_any (Heap.get?_push_size _ rfl) rfl (by simp only [Array.size_append] <;> simp <;> omega) ne (hh.keeps fun a o _ q => k a o q) fun h' oe' e1 e2 e3 => h h' _ oe' e1 e2 fun b o q => e3 b o (fun z => ?_) (k b o q)
  have := Heap.lt_size q
  rw [z, Heap.size_push] at this
  exact absurd (Nat.lt_of_succ_lt this) (Nat.lt_irrefl _)
theorem list_end {it l : Addr} {i : Nat} {items} {Q : Option Value → Shared → Prop} (hh : HdAt A s.heap) (hne : A.handled ≠ some (.ref it))
    (hit : s.heap.IsListIter it l i) (hl : s.heap.IsList l items) (hx : items[i]? = none)
    (hQ : ∀ h', (∀ b o, b ≠ it → s.heap.get? b = some o → h'.get? b = some o) → Q none { s with heap := h' }) : wpAny (model prog w) A (pyNext (.ref it)) Q E s := by
  obtain ⟨o, ho, hc, hd⟩ := id hit
  obtain ⟨ol, hol, _, nl, hdl⟩ := hl
  unfold pyNext
  refine wpAny_bind (wpAny_attempt (wpAny_callSpecial?_slot (name := Str.ofString "__next__") hit.typeIs slot_listiter_next
    (wpAny_call_entry slot_listiter_next hit.typeIs entry_listiter_next ?_ (args_listiter_next _))))
  show wpAny _ _ (field (.ref it) 0 >>= _) _ _ s
  refine wpAny_bind (wpAny_field ho hd (x := .ref l) rfl ?_)
  show wpAny _ _ (if (Value.ref l == Value.none) = true then _ else _) _ _ s
  rw [if_neg (show ¬ ((Value.ref l == Value.none) = true) from Bool.false_ne_true)]
  show wpAny _ _ (field (.ref it) 1 >>= _) _ _ s
  refine wpAny_bind (wpAny_field ho hd (x := .int i 0) rfl ?_)
  show wpAny _ _ (seqItems? (.ref l) >>= _) _ _ s
  refine wpAny_bind (wpAny_seqItems hol hdl ?_)
  simp only [Int.toNat_natCast, hx]
  refine wpAny_bind (wpAny_rule (wpAny_bind (wpAny_setField ho hd (by simp) ?_)))
  have k : ∀ b o', b ≠ it → s.heap.get? b = some o' → (s.heap.update it (Obj.mapFields (·.setIfInBounds 0 .none))).get? b = some o' := fun b o' hb q => by
    rw [Heap.get?_update_other _ _ (Ne.symm hb)]; exact q
  refine stop_raised (hh.keeps fun a o' e q => k a o' (fun z => hne (by rw [← z]; exact e)) q) fun h' e oe e1 e2 e3 => ?_
  refine wpAny_bind (wpAny_isInstance (T := "StopIteration") (b := true) ⟨_, e1, e2⟩ isSubtype_stop ?_)
  exact wpAny_pure (hQ _ fun b o' hb q => e3 b o' (k b o' hb q))
theorem tuple_end {it t : Addr} {i : Nat} {items} {Q : Option Value → Shared → Prop} (hh : HdAt A s.heap) (hne : A.handled ≠ some (.ref it))
    (hit : s.heap.IsTupleIter it t i) (ht : s.heap.IsTuple t items) (hx : items[i]? = none)
    (hQ : ∀ h', (∀ b o, b ≠ it → s.heap.get? b = some o → h'.get? b = some o) → Q none { s with heap := h' }) : wpAny (model prog w) A (pyNext (.ref it)) Q E s := by
  obtain ⟨o, ho, hc, hd⟩ := id hit
  obtain ⟨ol, hol, _, nl, hdl⟩ := ht
  unfold pyNext
  refine wpAny_bind (wpAny_attempt (wpAny_callSpecial?_slot (name := Str.ofString "__next__") hit.typeIs F.slot_tuple_iterator_next
    (wpAny_call_entry F.slot_tuple_iterator_next hit.typeIs F.entry_tuple_iterator_next ?_ (F.args_tuple_iterator_next_1 _))))
  show wpAny _ _ (field (.ref it) 0 >>= _) _ _ s
  refine wpAny_bind (wpAny_field ho hd (x := .ref t) rfl ?_)
  show wpAny _ _ (if (Value.ref t == Value.none) = true then _ else _) _ _ s
  rw [if_neg (show ¬ ((Value.ref t == Value.none) = true) from Bool.false_ne_true)]
  show wpAny _ _ (field (.ref it) 1 >>= _) _ _ s
  refine wpAny_bind (wpAny_field ho hd (x := .int i 0) rfl ?_)
  show wpAny _ _ (seqItems? (.ref t) >>= _) _ _ s
  refine wpAny_bind (wpAny_seqItems hol hdl ?_)
  simp only [Int.toNat_natCast, hx]
  refine wpAny_bind (wpAny_rule (wpAny_bind (wpAny_setField ho hd (by simp) ?_)))
  have k : ∀ b o', b ≠ it → s.heap.get? b = some o' → (s.heap.update it (Obj.mapFields (·.setIfInBounds 0 .none))).get? b = some o' := fun b o' hb q => by
    rw [Heap.get?_update_other _ _ (Ne.symm hb)]; exact q
  refine stop_raised (hh.keeps fun a o' e q => k a o' (fun z => hne (by rw [← z]; exact e)) q) fun h' e oe e1 e2 e3 => ?_
  refine wpAny_bind (wpAny_isInstance (T := "StopIteration") (b := true) ⟨_, e1, e2⟩ isSubtype_stop ?_)
  exact wpAny_pure (hQ _ fun b o' hb q => e3 b o' (k b o' hb q))
theorem range_end {it : Addr} {x left step : Int} {Q : Option Value → Shared → Prop} (hh : HdAt A s.heap) (hit : IsRangeIter s.heap it x left step) (hleft : left ≤ 0)
    (hQ : ∀ h', (∀ b o, s.heap.get? b = some o → h'.get? b = some o) → Q none { s with heap := h' }) : wpAny (model prog w) A (pyNext (.ref it)) Q E s := by
  have hT : s.TypeIs (.ref it) "range_iterator" := ⟨_, hit, rfl⟩
  unfold pyNext
  refine wpAny_bind (wpAny_attempt (wpAny_callSpecial?_slot (name := Str.ofString "__next__") hT F.slot_range_iterator_next
    (wpAny_call_entry F.slot_range_iterator_next hT F.entry_range_iterator_next ?_ (F.args_range_iterator_next_1 _))))
  show wpAny _ _ (field (.ref it) 0 >>= _) _ _ s
  refine wpAny_bind (wpAny_field hit rfl (x := rawInt x) rfl ?_)
  show wpAny _ _ (field (.ref it) 1 >>= _) _ _ s
  refine wpAny_bind (wpAny_field hit rfl (x := rawInt left) rfl ?_)
  show wpAny _ _ (field (.ref it) 2 >>= _) _ _ s
  refine wpAny_bind (wpAny_field hit rfl (x := rawInt step) rfl ?_)
  show wpAny _ _ (if left ≤ 0 then _ else _) _ _ s
  rw [if_pos hleft]
  refine wpAny_bind (wpAny_rule ?_)
  refine wpAny_bind ?_
  refine stop_raised hh fun h' e oe e1 e2 e3 => ?_
  refine wpAny_bind (wpAny_isInstance (T := "StopIteration") (b := true) ⟨_, e1, e2⟩ isSubtype_stop ?_)
  exact wpAny_pure (hQ _ fun b o' q => e3 b o' q)
theorem range_next {it : Addr} {lo : Int} {i n : Nat} {Q : Option Value → Shared → Prop} (hi : i < n) (st : IsRangeIter s.heap it (lo + (i : Nat) * 1) ((n : Int) - (i : Nat)) 1)
    (hQ : ∀ v h' tk, (∃ t, v = .int (lo + (i : Nat) * 1) t) → IsRangeIter h' it (lo + ((i + 1 : Nat) : Int) * 1) ((n : Int) - ((i + 1 : Nat) : Int)) 1 → (∀ b o, b ≠ it → s.heap.get? b = some o → h'.get? b = some o) → Q (some v) { s with heap := h', toks := tk }) :
    wpAny (model prog w) A (pyNext (.ref it)) Q E s := by
  refine wpAny_pyNext_range_item st (by omega) fun h' hit' hs' => ?_
  refine hQ _ h' _ ⟨_, rfl⟩ ?_ fun b o hb e => hs'.extBut b o hb e
  have e1 : lo + ((i + 1 : Nat) : Int) * 1 = lo + (i : Int) * 1 + 1 := by push_cast; omega
  have e2 : (n : Int) - ((i + 1 : Nat) : Int) = (n : Int) - (i : Int) - 1 := by push_cast; omega
  rw [e1, e2]; exact hit'
noncomputable def hdA (A : Around) : List Addr := match A.handled with | some (.ref a) => [a] | _ => []
theorem HdAt.frame {A : Around} {h h' : Heap} (x : HdAt A h) (k : ∀ b ∈ hdA A, ∀ o, h.get? b = some o → h'.get? b = some o) : HdAt A h' :=
  x.keeps fun a o e q => k a (by unfold hdA; rw [e]; exact List.mem_singleton.mpr rfl) o q
theorem walks_list (I ax : Addr) (hne : ax ≠ I) (hnI : A.handled ≠ some (.ref I)) (items : Array Value) :
    Walks prog w A I ([I, ax] ++ hdA A) [I] items.size (fun i v => items[i]? = some v) (fun i h => h.IsListIter I ax i ∧ h.IsList ax items ∧ HdAt A h) where
  sub := fun b hb => by simp at hb; simp [hb]
  frame := fun _ _ _ st hk => ⟨st.1.at fun o e => hk I (by simp) o e, st.2.1.at fun o e => hk ax (by simp) o e, st.2.2.frame fun b hb o e => hk b (List.mem_append_right _ hb) o e⟩
  item := fun i s Q E hi st hQ => by
    refine wpAny_pyNext_list_item st.1 st.2.1 (x := items[i]) (by simp [hi]) fun h' hit' hs' => ?_
    refine hQ _ h' s.toks (by simp [hi]) ⟨hit', st.2.1.extBut hs'.extBut hne, st.2.2.keeps fun a o e q => hs'.extBut a o (fun z => hnI (by rw [← z]; exact e)) q⟩ fun b o hb e => hs'.extBut b o (fun h => hb (by simp [h])) e
  done := fun s Q E st hQ => list_end st.2.2 hnI st.1 st.2.1 (by simp) fun h' he' => hQ h' s.toks fun b o hb e => he' b o (fun h => hb (by simp [h])) e
  self := fun _ _ _ _ st hQ => wpAny_pyIter_listiter st.1 hQ
end
end PySem
namespace L2
open PySem PySem.Spec PyProof.Rows
noncomputable abbrev Key := Sum Int Str
noncomputable def keyIs : Key → Value → Bool
  | .inl k, v => Value.isInt k v
  | .inr x, v => Value.isStrOf x v
noncomputable def keyH (w : World) : Key → Int
  | .inl k => hashInt k
  | .inr x => hashStr w x
theorem keyIs_shape : ∀ {k : Key} {v : Value}, keyIs k v = true → (∃ i t, k = Sum.inl i ∧ v = Value.int i t) ∨ (∃ x t, k = Sum.inr x ∧ v = Value.str x t)
  | .inl i, v, h => by
    obtain ⟨t, e⟩ := Value.isInt_shape (k := i) (v := v) h
    exact .inl ⟨i, t, rfl, e⟩
  | .inr x, v, h => by
    obtain ⟨t, e⟩ := Value.isStrOf_shape (x := x) (v := v) h
    exact .inr ⟨x, t, rfl, e⟩
theorem keyIs_int (i : Int) (t : Tok) : keyIs (.inl i) (.int i t) = true := by simp [keyIs, Value.isInt]
theorem keyIs_str (x : Str) (t : Tok) : keyIs (.inr x) (.str x t) = true := by simp [keyIs, Value.isStrOf]
theorem key_ll (a b : Int) : decide ((Sum.inl a : Key) = Sum.inl b) = (a == b) := by
  by_cases e : a = b
  · subst e; simp
  · have h : ¬ (Sum.inl a : Key) = Sum.inl b := fun q => e (Sum.inl.inj q)
    rw [decide_eq_false h]
    exact (beq_eq_false_iff_ne.mpr e).symm
theorem key_rr (a b : Str) : decide ((Sum.inr a : Key) = Sum.inr b) = decide (a = b) := by
  by_cases e : a = b
  · subst e; simp
  · have h : ¬ (Sum.inr a : Key) = Sum.inr b := fun q => e (Sum.inr.inj q)
    rw [decide_eq_false h, decide_eq_false e]
theorem key_lr (a : Int) (b : Str) : decide ((Sum.inl a : Key) = Sum.inr b) = false := decide_eq_false (fun q => nomatch q)
theorem key_rl (a : Str) (b : Int) : decide ((Sum.inr a : Key) = Sum.inl b) = false := decide_eq_false (fun q => nomatch q)
noncomputable def mixKind (prog : Program) (w : World) : PySem.KeyKind prog w Key where
  is := keyIs
  hash := keyH w
  inj := fun v a b ha hb => by
    rcases keyIs_shape ha with ⟨i, t, rfl, rfl⟩ | ⟨x, t, rfl, rfl⟩
    · rcases keyIs_shape hb with ⟨j, u, rfl, e⟩ | ⟨y, u, rfl, e⟩
      · injection e with e1 _; rw [e1]
      · exact nomatch e
    · rcases keyIs_shape hb with ⟨j, u, rfl, e⟩ | ⟨y, u, rfl, e⟩
      · exact nomatch e
      · injection e with e1 _; rw [e1]
  byValue := fun k v h => by
    rcases keyIs_shape h with ⟨i, t, rfl, rfl⟩ | ⟨x, t, rfl, rfl⟩ <;> rfl
  pyHash := fun hv h => by
    rcases keyIs_shape hv with ⟨i, t, rfl, rfl⟩ | ⟨x, t, rfl, rfl⟩
    · exact wpAny_pyHash_int h
    · exact wpAny_pyHash_str h
  eqBool := fun hu hv h => by
    rcases keyIs_shape hu with ⟨i, t, rfl, rfl⟩ | ⟨x, t, rfl, rfl⟩
    · rcases keyIs_shape hv with ⟨j, u, rfl, rfl⟩ | ⟨y, u, rfl, rfl⟩
      · rw [key_ll] at h; exact wpAny_eqBool_int h
      · rw [key_lr] at h; exact SeqAt.EqAt.int_str i t y u _ _ _ _ h
    · rcases keyIs_shape hv with ⟨j, u, rfl, rfl⟩ | ⟨y, u, rfl, rfl⟩
      · rw [key_rl] at h; exact SeqAt.EqAt.str_int x t j u _ _ _ _ h
      · rw [key_rr] at h; exact wpAny_eqBool_str h
  «strs» := fun k x t v h => by
    rcases keyIs_shape h with ⟨i, u, rfl, e⟩ | ⟨y, u, rfl, e⟩
    · exact nomatch e
    · injection e with e1 _
      subst e1
      cases v <;> rfl
theorem mixKind_int (prog : Program) (w : World) (i : Int) (t : Tok) : (mixKind prog w).is (.inl i) (.int i t) = true := keyIs_int i t
theorem mixKind_str (prog : Program) (w : World) (x : Str) (t : Tok) : (mixKind prog w).is (.inr x) (.str x t) = true := keyIs_str x t
end L2
namespace L2
open PySem PySem.Spec PyProof.Rows
inductive V where
  | non | bl (b : Bool) | int (i : Int) | str (x : Str) | byt (b : Array UInt8) | flt (b : UInt64) | ref (a : Addr) | ty (n : String)
  deriving DecidableEq
noncomputable def RelV : V → Value → Prop
  | .non, u => u = Value.none
  | .bl b, u => u = Value.bool b
  | .int i, u => ∃ t, u = Value.int i t
  | .str x, u => ∃ t, u = Value.str x t
  | .byt b, u => ∃ t, u = Value.bytes b t
  | .flt b, u => ∃ t, u = Value.float b t
  | .ref a, u => u = Value.ref a
  | .ty n, u => u = Value.type n
noncomputable abbrev Vals : List V → List Value → Prop := Paired RelV
theorem Vals.length {xs : List V} {us : List Value} (r : Vals xs us) : xs.length = us.length := Paired.length r
theorem Vals.get : ∀ {xs : List V} {us : List Value} {i : Nat} {x : V}, Vals xs us → xs[i]? = some x → ∃ u, us[i]? = some u ∧ RelV x u
  | _, _, _, _, .nil, e => by simp at e
  | _, _, 0, _, .cons r _, e => by simp at e; subst e; exact ⟨_, rfl, r⟩
  | _, _, i + 1, x, .cons _ t, e => by
    obtain ⟨u, h1, h2⟩ := Vals.get (i := i) (x := x) t (by simpa using e)
    exact ⟨u, by simpa using h1, h2⟩
theorem Vals.set {x : V} {u : Value} (r : RelV x u) : ∀ {xs : List V} {us : List Value} (i : Nat), Vals xs us → Vals (xs.set i x) (us.set i u)
  | _, _, _, .nil => .nil
  | _, _, 0, .cons _ t => .cons r t
  | _, _, i + 1, .cons q t => .cons q (Vals.set r i t)
theorem Vals.append : ∀ {xs ys : List V} {us ws : List Value}, Vals xs us → Vals ys ws → Vals (xs ++ ys) (us ++ ws)
  | _, _, _, _, .nil, s => s
  | _, _, _, _, .cons r t, s => .cons r (Vals.append t s)
theorem Vals.take : ∀ {xs : List V} {us : List Value} (n : Nat), Vals xs us → Vals (xs.take n) (us.take n)
  | _, _, 0, _ => .nil
  | _, _, _ + 1, .nil => .nil
  | _, _, n + 1, .cons r t => .cons r (Vals.take n t)
theorem Vals.drop : ∀ {xs : List V} {us : List Value} (n : Nat), Vals xs us → Vals (xs.drop n) (us.drop n)
  | _, _, 0, r => r
  | _, _, _ + 1, .nil => .nil
  | _, _, n + 1, .cons _ t => Vals.drop n t
noncomputable def RelO : Option V → Option Value → Prop
  | some v, some u => RelV v u
  | none, none => True
  | _, _ => False
noncomputable def KV {κ : Type} : List (κ × V) → List (κ × Value) → Prop := Paired fun (p : κ × V) (q : κ × Value) => p.1 = q.1 ∧ RelV p.2 q.2
noncomputable def kV : Key → V
  | .inl i => .int i
  | .inr x => .str x
inductive HO where
  /-- a list -/
  | lst (xs : List V)
  /-- a tuple (never changes) -/
  | tup (xs : List V)
  /-- a dict whose keys are ints and texts; one whose keys are tuples of ints and texts (the empty one is both) -/
  | dK (kvs : List (Key × V)) | dT (kvs : List (List Key × V))
  /-- a set of ints: its members, its size -/
  | set (S : Int → Bool) (n : Nat)
  /-- an instance of the class at C, its dict at dx, its attributes -/
  | ins (C dx : Addr) (fs : List (Str × V))
  /-- the dict of the instance at x -/
  | own (x : Addr)
  /-- the dict of an exception -/
  | xd (fs : List (Str × V))
  /-- a bound method, f of x -/
  | met (f x : Addr)
  /-- a range object lo, lo + 1, .. below hi -/
  | rng (lo hi : Int)
  /-- a thing that is known to the object (the script; a dict while a loop walks it): read, never written while it is so -/
  | frz (o : Obj) (u : HO)
  /-- a code object's table -/
  | tbl (ps : Array Value)
  /-- any other thing, by what is true of its one object (a def of one's own: SetO a S n := HO.ext fun h => ..) -/
  | ext (φ : Heap → Prop)
noncomputable abbrev Hp := Addr → Option HO
noncomputable def upd (H : Hp) (a : Addr) (o : HO) : Hp := fun b => if b = a then some o else H b
theorem upd_same {H : Hp} {a : Addr} {o : HO} : upd H a o a = some o := by unfold upd; rw [if_pos rfl]
theorem upd_ne {H : Hp} {a b : Addr} {o : HO} (h : b ≠ a) : upd H a o b = H b := by unfold upd; rw [if_neg h]
theorem upd_upd {H : Hp} {a : Addr} {o u : HO} : upd (upd H a o) a u = upd H a u := by
  funext b; unfold upd; split <;> rfl
theorem ne_of {H : Hp} {a b : Addr} {o u : HO} (h : H a = some o) (h' : H b = some u) (d : o ≠ u) : a ≠ b := by
  intro e; subst e; rw [h] at h'; exact d (Option.some.inj h')
theorem ne_of_none {H : Hp} {a b : Addr} {o : HO} (h : H a = some o) (h' : H b = none) : a ≠ b := by
  intro e; subst e; rw [h] at h'; cases h'
section
variable (P : Program) (w : World)
noncomputable def ObjOk (H : Hp) (h : Heap) (a : Addr) : HO → Prop
  | .lst xs => xs.length ≤ sizeLine ∧ ∃ (its : List Value) (n : Nat), Vals xs its ∧ h.get? a = some { cls := .type "list", data := .seq its.toArray n }
  | .tup xs => xs.length ≤ sizeLine ∧ ∃ its : List Value, Vals xs its ∧ IsTup h a its.toArray
  | .dK kvs => kvs.length ≤ sizeLine ∧ (a == sysModules) = false ∧ ∃ vs, KV kvs vs ∧ h.DictOf (mixKind P w) a vs
  | .dT kvs => kvs.length ≤ sizeLine ∧ (a == sysModules) = false ∧ ∃ xs : List (List Key × Addr × Value),
      Paired (fun (p : List Key × V) (q : List Key × Addr × Value) => p.1 = q.1 ∧ H q.2.1 = some (.tup (p.1.map kV)) ∧ RelV p.2 q.2.2) kvs xs ∧
      ∃ o es ep, h.get? a = some o ∧ o.ExactDict ∧ o.data = .dict es ep ∧ es.toList = xs.map (entryOfKey (tupleKind (mixKind P w))) ∧ (xs.map (·.1)).Nodup
  | .set S n => h.SetOf (intKind P w) a S n
  | .ins C dx fs => H dx = some (.own a) ∧ fs.length ≤ 1000 ∧ dx ≠ a ∧ h.get? a = some (PySem.W.instObj C dx) ∧
      ∃ mA, h.Ns1 dx mA ∧ (∀ f, RelO (fs.lookup f) (mA f)) ∧ PySem.Within mA (fs.map (·.1))
  | .own _ => ∃ o, h.get? a = some o
  | .xd fs => ∃ mA, h.Ns1 a mA ∧ ∀ f, RelO (fs.lookup f) (mA f)
  | .rng lo hi => ∃ t u v, h.get? a = some { cls := .type "range", data := .fields #[.int lo t, .int hi u, .int 1 v] }
  | .frz o u => h.get? a = some o ∧ ObjOk H h a u
  | .tbl ps => h.get? a = some { cls := .none, data := .fields ps }
  | .met f x => h.get? a = some (PySem.W.methodObj (.ref f) (.ref x))
  | .ext φ => φ h ∧ (∃ o, h.get? a = some o) ∧ ∀ h1 h2 : Heap, φ h1 → (∀ o, h1.get? a = some o → h2.get? a = some o) → φ h2
noncomputable def HOk (H : Hp) (h : Heap) : Prop := ∀ a o, H a = some o → ObjOk P w H h a o
end
section
variable {P : Program} {w : World} {H H' : Hp} {h h' : Heap} {a : Addr} {o : HO}
theorem ObjOk.lt (x : ObjOk P w H h a o) : a < h.objs.size := by
  cases o with
  | lst xs => obtain ⟨_, _, _, _, e⟩ := x; exact Heap.lt_size e
  | tup xs => obtain ⟨_, _, _, p⟩ := x; exact p.lt
  | dK kvs => obtain ⟨_, _, _, _, o, _, _, e, _⟩ := x; exact Heap.lt_size e
  | dT kvs => obtain ⟨_, _, _, _, o, _, _, e, _⟩ := x; exact Heap.lt_size e
  | set S n => obtain ⟨o, _, _, _, e, _⟩ := x; exact Heap.lt_size e
  | ins C dx fs => obtain ⟨_, _, _, e, _⟩ := x; exact Heap.lt_size e
  | own y => obtain ⟨_, e⟩ := x; exact Heap.lt_size e
  | xd fs => obtain ⟨_, ⟨_, _, _, e, _⟩, _⟩ := x; exact Heap.lt_size e
  | rng lo hi => obtain ⟨_, _, _, e⟩ := x; exact Heap.lt_size e
  | frz ob u => obtain ⟨e, _⟩ := x; exact Heap.lt_size e
  | tbl ps => exact Heap.lt_size (show h.get? a = some _ from x)
  | met f y => exact Heap.lt_size (show h.get? a = some _ from x)
  | ext φ => obtain ⟨_, ⟨_, e⟩, _⟩ := x; exact Heap.lt_size e
theorem Paired.mapP {α β : Type} {F G : α → β → Prop} : ∀ {l₁ : List α} {l₂ : List β}, Paired F l₁ l₂ → (∀ a b, F a b → G a b) → Paired G l₁ l₂
  | _, _, .nil, _ => .nil
  | _, _, .cons r t, f => .cons (f _ _ r) (Paired.mapP t f)
theorem ObjOk.stay (x : ObjOk P w H h a o) (k : ∀ b u, (b = a ∨ H b = some (.own a)) → h.get? b = some u → h'.get? b = some u)
    (ho : ∀ b, H b = some (.own a) → H' b = some (.own a)) (ht : ∀ b xs, H b = some (.tup xs) → H' b = some (.tup xs)) : ObjOk P w H' h' a o := by
  induction o with
  | lst xs => obtain ⟨z, its, n, r, e⟩ := x; exact ⟨z, its, n, r, k _ _ (.inl rfl) e⟩
  | tup xs => obtain ⟨z, its, r, ob, e, c⟩ := x; exact ⟨z, its, r, ob, k _ _ (.inl rfl) e, c⟩
  | dK kvs => obtain ⟨z, y, vs, r, ob, es, ep, e, c⟩ := x; exact ⟨z, y, vs, r, ob, es, ep, k _ _ (.inl rfl) e, c⟩
  | dT kvs =>
    obtain ⟨z, y, xs, r, ob, es, ep, e, c⟩ := x
    exact ⟨z, y, xs, Paired.mapP r fun p q z => ⟨z.1, ht _ _ z.2.1, z.2.2⟩, ob, es, ep, k _ _ (.inl rfl) e, c⟩
  | set S n => obtain ⟨ob, es, ep, t, e, c⟩ := x; exact ⟨ob, es, ep, t, k _ _ (.inl rfl) e, c⟩
  | ins C dx fs =>
    obtain ⟨d, z, ne, e, mA, ⟨od, es, ep, e2, c⟩, r⟩ := x
    exact ⟨ho _ d, z, ne, k _ _ (.inl rfl) e, mA, ⟨od, es, ep, k _ _ (.inr d) e2, c⟩, r⟩
  | own y => obtain ⟨ob, e⟩ := x; exact ⟨ob, k _ _ (.inl rfl) e⟩
  | xd fs => obtain ⟨mA, ⟨od, es, ep, e, c⟩, r⟩ := x; exact ⟨mA, ⟨od, es, ep, k _ _ (.inl rfl) e, c⟩, r⟩
  | rng lo hi => obtain ⟨t, u, v, e⟩ := x; exact ⟨t, u, v, k _ _ (.inl rfl) e⟩
  | frz ob u ih => obtain ⟨e, q⟩ := x; exact ⟨k _ _ (.inl rfl) e, ih q⟩
  | tbl ps =>
    have e : h.get? a = some { cls := .none, data := .fields ps } := x
    show h'.get? a = some { cls := .none, data := .fields ps }
    exact k a _ (.inl rfl) e
  | met f y =>
    have e : h.get? a = some (PySem.W.methodObj (.ref f) (.ref y)) := x
    show h'.get? a = some (PySem.W.methodObj (.ref f) (.ref y))
    exact k a _ (.inl rfl) e
  | ext φ => obtain ⟨p, ⟨o, e⟩, st⟩ := x; exact ⟨st _ _ p fun o q => k _ _ (.inl rfl) q, ⟨o, k _ _ (.inl rfl) e⟩, st⟩
theorem HOk.lt (x : HOk P w H h) (e : H a = some o) : a < h.objs.size := (x a o e).lt
theorem HOk.fresh (x : HOk P w H h) (e : h.objs.size ≤ a) : H a = none := by
  cases q : H a with
  | none => rfl
  | some u => exact absurd (Nat.lt_of_lt_of_le (x.lt q) e) (Nat.lt_irrefl _)
theorem HOk.kept (x : HOk P w H h) (k : ∀ b u, h.get? b = some u → h'.get? b = some u) : HOk P w H h' := fun a o e =>
  (x a o e).stay (fun b u _ q => k b u q) (fun _ q => q) fun _ _ q => q
theorem HOk.laid (x : HOk P w H h) (k : ∀ b u, h.get? b = some u → h'.get? b = some u) (hp : h.objs.size ≤ a) (new : ObjOk P w (upd H a o) h' a o) : HOk P w (upd H a o) h' := fun b u e => by
  have hn := x.fresh hp
  by_cases hb : b = a
  · subst hb; rw [upd_same] at e; cases e; exact new
  · rw [upd_ne hb] at e
    exact (x b u e).stay (fun c v _ q => k c v q) (fun c q => by rw [upd_ne (ne_of_none q hn)]; exact q) fun c xs q => by rw [upd_ne (ne_of_none q hn)]; exact q
end
noncomputable def Rd (H : Hp) (a : Addr) (u : HO) : Prop := H a = some u ∨ ∃ o, H a = some (.frz o u)
theorem Rd.ok {P : Program} {w : World} {H : Hp} {h : Heap} {a : Addr} {u : HO} (r : Rd H a u) (x : HOk P w H h) : ObjOk P w H h a u := by
  rcases r with r | ⟨o, r⟩
  · exact x a u r
  · obtain ⟨_, q⟩ := x a _ r
    exact q
noncomputable def Mut : Option HO → Prop
  | some (.lst _) => True
  | some (.dK _) => True
  | some (.dT _) => True
  | some (.set _ _) => True
  | some (.ins _ _ _) => True
  | some (.ext _) => True
  | _ => False
section
variable {P : Program} {w : World} {H : Hp} {h h' : Heap} {x e : Addr} {o' : HO}
theorem HOk.write (ok : HOk P w H h) (mu : Mut (H x)) (he : e = x ∨ H e = some (.own x)) (k : ∀ b u, b ≠ e → h.get? b = some u → h'.get? b = some u) (heo : ∃ u, h'.get? e = some u)
    (new : ObjOk P w (upd H x o') h' x o') : HOk P w (upd H x o') h' := fun b u q => by
  have nown : ∀ c y, H c = some (.own y) → c ≠ x := fun c y r z => by subst z; rw [r] at mu; exact mu
  have ntup : ∀ c xs, H c = some (.tup xs) → c ≠ x := fun c xs r z => by subst z; rw [r] at mu; exact mu
  by_cases hb : b = x
  · subst hb; rw [upd_same] at q; cases q; exact new
  · rw [upd_ne hb] at q
    by_cases hbe : b = e
    · have q' : H b = some (.own x) := by
        rcases he with z | z
        · exact absurd (hbe.trans z) hb
        · rw [hbe]; exact z
      rw [q] at q'; cases q'
      obtain ⟨v, hv⟩ := heo
      exact ⟨v, by rw [hbe]; exact hv⟩
    · refine (ok b u q).stay (fun c v hc r => k c v ?_ r) (fun c r => by rw [upd_ne (nown c b r)]; exact r) fun c xs r => by rw [upd_ne (ntup c xs r)]; exact r
      rcases hc with rfl | hc
      · exact hbe
      · rintro rfl
        rcases he with z | z
        · exact nown c b hc z
        · rw [hc] at z; cases z; exact hb rfl
end
structure Un (fs ex : List Addr) (H H' : Hp) (h h' : Heap) : Prop where
  keep : ∀ b o, h.get? b = some o → H b = none → b ∉ fs → b ∉ ex → h'.get? b = some o
  slot : ∀ b o, h.get? b = some o → H b = none → b ∈ fs → b ∉ ex → ∃ sl, h'.get? b = some { o with slots := sl }
  free : ∀ b o, h.get? b = some o → H b = none → b ∉ ex → H' b = none
  there : ∀ b o, h.get? b = some o → b ∉ ex → ∃ o', h'.get? b = some o'
  tups : ∀ b xs, H b = some (.tup xs) → H' b = some (.tup xs)
  frzs : ∀ b o u, H b = some (.frz o u) → H' b = some (.frz o u)
  tbls : ∀ b ps, H b = some (.tbl ps) → ∃ more, H' b = some (.tbl (ps ++ more))
section
variable {fs fs' ex ex' : List Addr} {H H1 H2 : Hp} {h h1 h2 h' : Heap} {a x e : Addr} {o : HO}
theorem Un.any (u : Un fs ex H H1 h h1) {b : Addr} {ob : Obj} (q : h.get? b = some ob) (n : H b = none) (hx : b ∉ ex) : ∃ sl, h1.get? b = some { ob with slots := sl } := by
  by_cases hb : b ∈ fs
  · exact u.slot b ob q n hb hx
  · exact ⟨ob.slots, u.keep b ob q n hb hx⟩
theorem Un.trans (a : Un fs ex H H1 h h1) (b : Un fs ex H1 H2 h1 h2) : Un fs ex H H2 h h2 where
  keep := fun c ob q n hc hx => b.keep c ob (a.keep c ob q n hc hx) (a.free c ob q n hx) hc hx
  slot := fun c ob q n hc hx => by
    obtain ⟨sl, e1⟩ := a.slot c ob q n hc hx
    obtain ⟨sl', e2⟩ := b.slot c _ e1 (a.free c ob q n hx) hc hx
    exact ⟨sl', e2⟩
  free := fun c ob q n hx => by
    obtain ⟨o', e1⟩ := a.there c ob q hx
    exact b.free c o' e1 (a.free c ob q n hx) hx
  there := fun c ob q hx => by
    obtain ⟨o', e1⟩ := a.there c ob q hx
    exact b.there c o' e1 hx
  tups := fun c xs q => b.tups c xs (a.tups c xs q)
  frzs := fun c ob xs q => b.frzs c ob xs (a.frzs c ob xs q)
  tbls := fun c ps q => by
    obtain ⟨m1, e1⟩ := a.tbls c ps q
    obtain ⟨m2, e2⟩ := b.tbls c _ e1
    exact ⟨m1 ++ m2, by rw [e2, Array.append_assoc]⟩
theorem Un.kept (k : ∀ b u, h.get? b = some u → h'.get? b = some u) : Un fs ex H H h h' :=
  ⟨fun b ob q _ _ _ => k b ob q, fun b ob q _ _ _ => ⟨ob.slots, k b ob q⟩, fun _ _ _ n _ => n, fun b ob q _ => ⟨ob, k b ob q⟩, fun _ _ q => q, fun _ _ _ q => q, fun _ ps q => ⟨#[], by rw [q]; simp⟩⟩
theorem Un.refl : Un fs ex H H h h := Un.kept fun _ _ q => q
theorem Un.laid (k : ∀ b u, h.get? b = some u → h'.get? b = some u) (hp : h.objs.size ≤ a) (hn : H a = none) : Un fs ex H (upd H a o) h h' where
  keep := fun b u q _ _ _ => k b u q
  slot := fun b u q _ _ _ => ⟨u.slots, k b u q⟩
  free := fun b u q n _ => by rw [upd_ne (Nat.ne_of_lt (Nat.lt_of_lt_of_le (Heap.lt_size q) hp))]; exact n
  there := fun b u q _ => ⟨u, k b u q⟩
  tups := fun b xs q => by rw [upd_ne (ne_of_none q hn)]; exact q
  frzs := fun b u xs q => by rw [upd_ne (ne_of_none q hn)]; exact q
  tbls := fun b ps q => ⟨#[], by rw [upd_ne (ne_of_none q hn), q]; simp⟩
theorem Un.write (mu : Mut (H x)) (he : e = x ∨ H e = some (.own x)) (k : ∀ b u, b ≠ e → h.get? b = some u → h'.get? b = some u) (heo : ∃ u, h'.get? e = some u) : Un fs ex H (upd H x o) h h' := by
  have hx : ∀ b, H b = none → b ≠ x := fun b n z => by subst z; rw [n] at mu; exact mu
  have hb : ∀ b, H b = none → b ≠ e := fun b n z => by
    subst z
    rcases he with r | r
    · exact hx b n r
    · rw [n] at r; cases r
  have hm : ∀ b u, H b = some u → ¬ Mut (some u) → b ≠ x := fun b u q nm z => by subst z; rw [q] at mu; exact nm mu
  refine ⟨fun b u q n _ _ => k b u (hb b n) q, fun b u q n _ _ => ⟨u.slots, k b u (hb b n) q⟩, fun b u q n _ => by rw [upd_ne (hx b n)]; exact n, fun b u q _ => ?_,
    fun b xs q => by rw [upd_ne (hm b _ q fun z => z)]; exact q, fun b u xs q => by rw [upd_ne (hm b _ q fun z => z)]; exact q, fun b ps q => ⟨#[], by rw [upd_ne (hm b _ q fun z => z), q]; simp⟩⟩
  by_cases hbe : b = e
  · subst hbe; exact heo
  · exact ⟨u, k b u hbe q⟩
theorem Un.mono (u : Un fs ex H H1 h h1) (hs : ∀ b ∈ fs, b ∈ fs') (hx : ∀ b ∈ ex, b ∈ ex') : Un fs' ex' H H1 h h1 :=
  ⟨fun b ob q n hb he => u.keep b ob q n (fun z => hb (hs b z)) fun z => he (hx b z), fun _ _ q n _ he => u.any q n fun z => he (hx _ z), fun b ob q n he => u.free b ob q n fun z => he (hx b z), fun b ob q he => u.there b ob q fun z => he (hx b z), u.tups, u.frzs, u.tbls⟩
end
noncomputable def trk (h : Heap) (H : Hp) : List Addr := (List.range h.objs.size).filter fun a => (H a).isSome
noncomputable def hidT (h : Heap) (H : Hp) : Heap := PySem.W.hideAll h (trk h H)
theorem hidT_size (h : Heap) (H : Hp) : (hidT h H).objs.size = h.objs.size := PySem.W.hideAll_size _ _
theorem hidT_get {h : Heap} {H : Hp} {b : Addr} {o : Obj} (e : h.get? b = some o) (n : H b = none) : (hidT h H).get? b = some o :=
  PySem.W.hideAll_get _ e fun hm => by
    have q : (H b).isSome = true := (List.mem_filter.mp hm).2
    rw [n] at q; simp at q
theorem of_hidT {h : Heap} {H : Hp} {b : Addr} {o : Obj} (e : (hidT h H).get? b = some o) : h.get? b = some o ∧ H b = none := by
  have e' : h.get? b = some o := PySem.W.of_hideAll (trk h H) e
  refine ⟨e', ?_⟩
  cases q : H b with
  | none => rfl
  | some x =>
    have hm : b ∈ trk h H := List.mem_filter.mpr ⟨List.mem_range.mpr (Heap.lt_size e'), by simp [q]⟩
    have z : (hidT h H).get? b = none := PySem.W.hideAll_none (trk h H) hm
    rw [z] at e; cases e
noncomputable def allNews (g h : Heap) (L : Addr) : List (Addr × Obj) := (List.range h.objs.size).filterMap fun a => if a = L ∨ (g.get? a).isSome = true then none else (h.get? a).map fun o => (a, o)
noncomputable def rest (g h : Heap) (L d : Addr) : List (Addr × Obj) := (allNews g h L).filter fun p => decide (p.1 ≠ d)
end L2
namespace L2
open PySem PySem.Spec PyProof.Rows
structure Mod (K : PySem.W.Frag) (mg : Str → Option Value) (base : Heap) : Prop where
  kin : K.In base
  glob : base.Ns mainGlobals mg
  blt : ∃ mb, base.Ns builtinsNs mb ∧ ∀ x : Str, x ≠ "__name__" → mb x = bootBuiltins x
  nolimit : base.NoLimit
structure Cx where
  prog : Program
  w : World
  K : PySem.W.Frag
  mg : Str → Option Value
  base : Heap
  A : Around
  N : List Str
  s₀ : Shared
  H₀ : Hp
  env : Env
  outer : List Env
  stack : List Env
  ex : List Addr
  fn : Str → Bool
  calm : Bool
  hx : Option (Addr × Obj)
  pn : List (Addr × Obj)
  xe : Value → Shared → Prop
noncomputable def frs (l : List Env) : List Addr := l.filterMap (·.frame)
noncomputable def HdOk (hx : Option (Addr × Obj)) (A : Around) : Prop := A.handled = none ∨ ∃ a o vs, hx = some (a, o) ∧ A.handled = some (.ref a) ∧ o.data = .fields vs ∧ vs[2]? = some .none
theorem HdOk.mono {hx : Option (Addr × Obj)} {A A' : Around} (h : HdOk hx A) (e : A'.handled = A.handled) : HdOk hx A' := by unfold HdOk at h ⊢; rw [e]; exact h
noncomputable def HxOk (hx : Option (Addr × Obj)) (H : Hp) : Prop := ∀ a o, hx = some (a, o) → ∃ u, H a = some (.frz o u)
noncomputable abbrev Cx.fs (X : Cx) : List Addr := frs X.outer
noncomputable def Vis (sc : Scope) (x : Str) : Prop := sc.names.lookup x = some .local ∨ sc.names.lookup x = some .cell ∨ sc.names.lookup x = some .free
noncomputable def Loc (sc : Scope) (x : Str) : Prop := sc.names.lookup x = some .local ∨ sc.names.lookup x = some .cell
noncomputable def Look (env : Env) (h : Heap) (m : Str → Option Value) (x : Str) (u : Value) : Prop :=
  (env.kindOf x = some .local ∧ m x = some u) ∨ ((env.kindOf x = some .cell ∨ env.kindOf x = some .free) ∧ ∃ c, env.cells.lookup x = some c ∧ h.IsCell c (some u))
structure Cx.Ok (X : Cx) : Prop where
  mod : Mod X.K X.mg X.base
  kind : X.env.scope.kind = .function
  glob : X.env.globals = mainGlobals
  blt : X.env.builtins = builtinsNs
  above : X.s₀.heap.objs.size ≤ X.env.locals
  inj : ∀ x y c, X.env.cells.lookup x = some c → X.env.cells.lookup y = some c → x = y
  has : ∀ x, (X.env.kindOf x = some .cell ∨ X.env.kindOf x = some .free) → ∃ c, X.env.cells.lookup x = some c
  cab : ∀ x c, X.fn x = true → X.env.cells.lookup x = some c → X.s₀.heap.objs.size ≤ c
  hd : X.calm = true → X.A.handled = none
  frames : X.A.frames = some X.stack
  stk : X.stack = X.outer ∨ (X.stack = X.env :: X.outer ∧ X.env.frame = some X.env.locals)
  exf : ∀ b ∈ X.ex, b ≠ X.env.locals ∧ ∀ x c, X.env.cells.lookup x = some c → c ≠ b
  bs : ∀ b o, X.base.get? b = some o → X.s₀.heap.get? b = some o ∧ X.H₀ b = none
  bsz : X.base.objs.size ≤ X.s₀.heap.objs.size
  noex : ∀ b o, X.base.get? b = some o → b ∉ X.ex
  exfs : ∀ b ∈ X.ex, b ∉ X.fs
  funs : X.s₀.heap.FunFrames X.base X.outer
  frf : ∀ b ∈ X.fs, X.H₀ b = none
  hnd : HdOk X.hx X.A
structure Inv (X : Cx) (pins : List (Addr × Obj)) (σ : List (Option V)) (H : Hp) (s : Shared) : Prop where
  ok : X.Ok
  os : s.os = X.s₀.os
  bare : AllBare s.gens
  base : Un X.fs X.ex X.H₀ H X.s₀.heap s.heap
  loc : ∃ m, s.heap.Ns X.env.locals m ∧ ∀ (i : Nat) (x : Str) (v : V), X.N[i]? = some x → σ[i]? = some (some v) → Vis X.env.scope x → ∃ u, RelV v u ∧ Look X.env s.heap m x u
  cell : ∀ x c, X.env.cells.lookup x = some c → ∃ v, s.heap.IsCell c v
  free : H X.env.locals = none
  freeC : ∀ x c, X.env.cells.lookup x = some c → H c = none
  pin : ∀ p ∈ X.pn ++ pins, s.heap.get? p.1 = some p.2 ∧ H p.1 = none ∧ p.1 ≠ X.env.locals ∧ p.1 ∉ X.fs ∧ ∀ v, p.2.data ≠ .cell v
  hok : HOk X.prog X.w H s.heap
  len : σ.length = X.N.length
  hxs : HxOk X.hx H
section
variable {X : Cx} {pins : List (Addr × Obj)} {σ : List (Option V)} {H H' : Hp} {s : Shared} {h' : Heap}
theorem Cx.Ok.nofr (ok : X.Ok) {b : Addr} {o : Obj} (e : X.base.get? b = some o) : b ∉ X.fs := fun hb => by
  have := (ok.funs.mem hb).1
  rw [e] at this; cases this
theorem Inv.bs (I : Inv X pins σ H s) : ∀ b o, X.base.get? b = some o → s.heap.get? b = some o ∧ H b = none := fun b o e =>
  ⟨I.base.keep b o (I.ok.bs b o e).1 (I.ok.bs b o e).2 (I.ok.nofr e) (I.ok.noex b o e), I.base.free b o (I.ok.bs b o e).1 (I.ok.bs b o e).2 (I.ok.noex b o e)⟩
theorem Inv.bk (I : Inv X pins σ H s) : ∀ b o, X.base.get? b = some o → s.heap.get? b = some o := fun b o e => (I.bs b o e).1
theorem Inv.mod (I : Inv X pins σ H s) : Mod X.K X.mg X.base := I.ok.mod
theorem Inv.kIn (I : Inv X pins σ H s) : X.K.In s.heap := I.ok.mod.kin.keeps I.bk
theorem Inv.fr (I : Inv X pins σ H s) : ∃ m, Fr X.base X.env.locals s.heap m :=
  let ⟨m, hn, _⟩ := I.loc
  ⟨m, hn, I.bk, Nat.le_trans I.ok.bsz I.ok.above⟩
theorem Inv.lt (I : Inv X pins σ H s) : X.env.locals < s.heap.objs.size := let ⟨_, hn, _⟩ := I.loc; hn.lt
theorem Inv.sz (I : Inv X pins σ H s) : X.s₀.heap.objs.size ≤ s.heap.objs.size := Nat.le_trans I.ok.above (Nat.le_of_lt I.lt)
theorem Inv.nofs (I : Inv X pins σ H s) {a : Addr} (h : s.heap.objs.size ≤ a) : a ∉ X.fs := fun hb => by
  obtain ⟨_, o, ho, _⟩ := I.ok.funs.mem hb
  exact absurd (Nat.lt_of_lt_of_le (Heap.lt_size ho) (Nat.le_trans I.sz h)) (Nat.lt_irrefl _)
theorem Inv.cne (I : Inv X pins σ H s) : ∀ x c, X.env.cells.lookup x = some c → c ≠ X.env.locals := fun x c e z => by
  obtain ⟨v, o, ho, hd⟩ := I.cell x c e
  obtain ⟨m, ⟨o', es, ep, ho', hd', _⟩, _⟩ := I.loc
  rw [z, ho'] at ho; cases ho; rw [hd'] at hd; cases hd
theorem Inv.funs (I : Inv X pins σ H s) : s.heap.FunFrames X.base X.outer := by
  have all : ∀ (l : List Env), (∀ b ∈ frs l, b ∈ X.fs) → X.s₀.heap.FunFrames X.base l → s.heap.FunFrames X.base l := by
    intro l
    induction l with
    | nil => intro _ _; trivial
    | cons env r ih =>
      intro hs hl
      obtain ⟨hk, ⟨L, o, hf, hn, ho, hd⟩, hr⟩ := hl
      have hL : L ∈ X.fs := hs L (by unfold frs; rw [List.filterMap_cons, hf]; exact List.mem_cons_self)
      obtain ⟨sl, e⟩ := I.base.slot L o ho (I.ok.frf L hL) hL fun z => I.ok.exfs L z hL
      exact ⟨hk, ⟨L, _, hf, hn, e, hd⟩, ih (fun b hb => hs b (by unfold frs; rw [List.filterMap_cons, hf]; exact List.mem_cons_of_mem _ hb)) hr⟩
  exact all X.outer (fun _ hb => hb) I.ok.funs
theorem Inv.stack (I : Inv X pins σ H s) : s.heap.FunFrames X.base X.stack := by
  rcases I.ok.stk with e | ⟨e, hf⟩
  · rw [e]; exact I.funs
  · rw [e]
    obtain ⟨m, hn, _⟩ := I.loc
    refine .cons (by rw [I.ok.kind]; decide) hf hn ?_ I.funs
    exact Heap.get?_none_of_le (Nat.le_trans I.ok.bsz I.ok.above)
theorem Inv.stkSub (I : Inv X pins σ H s) : ∀ b ∈ frs X.stack, b ∈ X.env.locals :: X.fs := fun b hb => by
  rcases I.ok.stk with e | ⟨e, hf⟩
  · rw [e] at hb; exact List.mem_cons_of_mem _ hb
  · rw [e] at hb
    unfold frs at hb
    rw [List.filterMap_cons, hf] at hb
    exact hb
theorem Inv.hdAt (I : Inv X pins σ H s) : HdAt X.A s.heap := by
  rcases I.ok.hnd with e | ⟨a, o, vs, e1, e2, e3, e4⟩
  · exact .inl e
  · obtain ⟨u, z⟩ := I.hxs a o e1
    exact .inr ⟨a, o, vs, e2, (I.hok a _ z).1, e3, e4⟩
theorem Inv.hdNe (I : Inv X pins σ H s) {b : Addr} (h : H b = none) : X.A.handled ≠ some (.ref b) := fun q => by
  rcases I.ok.hnd with e | ⟨a, o, vs, e1, e2, e3, e4⟩
  · rw [e] at q; cases q
  · obtain ⟨u, z⟩ := I.hxs a o e1
    rw [e2] at q; cases q
    rw [h] at z; cases z
theorem Inv.stkFree (I : Inv X pins σ H s) : ∀ b ∈ frs X.stack, H b = none := fun b hb => by
  rcases List.mem_cons.mp (I.stkSub b hb) with e | hb
  · rw [e]; exact I.free
  · obtain ⟨_, o, ho, _⟩ := I.ok.funs.mem hb
    exact I.base.free b o ho (I.ok.frf b hb) fun z => I.ok.exfs b z hb
theorem Inv.step {g' : Array GenState} {t' : Nat} {d' : Drawn} {ch : List Addr} (I : Inv X pins σ H s)
    (hch : ∀ b ∈ ch, (b ∈ X.ex ∨ X.s₀.heap.objs.size ≤ b) ∧ b ≠ X.env.locals ∧ (∀ x c, X.env.cells.lookup x = some c → c ≠ b) ∧ ∀ p ∈ X.pn ++ pins, p.1 ≠ b)
    (keep : ∀ b o, b ≠ X.env.locals → b ∉ X.fs → b ∉ ch → s.heap.get? b = some o → H b = none → h'.get? b = some o)
    (slot : ∀ b o, b ≠ X.env.locals → b ∈ X.fs → b ∉ ch → s.heap.get? b = some o → H b = none → ∃ sl, h'.get? b = some { o with slots := sl }) (free : ∀ b o, b ∉ ch → s.heap.get? b = some o → H b = none → H' b = none)
    (there : ∀ b o, b ∉ ch → s.heap.get? b = some o → ∃ o', h'.get? b = some o')
    (tups : ∀ b xs, H b = some (.tup xs) → H' b = some (.tup xs)) (frzs : ∀ b o u, H b = some (.frz o u) → H' b = some (.frz o u)) (tbls : ∀ b ps, H b = some (.tbl ps) → ∃ more, H' b = some (.tbl (ps ++ more)))
    (ns : ∀ m, s.heap.Ns X.env.locals m → h'.Ns X.env.locals m) (hok : HOk X.prog X.w H' h') (hg : AllBare g') :
    Inv X pins σ H' { s with heap := h', gens := g', drawn := d', toks := t' } := by
  have neL : ∀ b o, X.s₀.heap.get? b = some o → b ≠ X.env.locals := fun b o e => Nat.ne_of_lt (Nat.lt_of_lt_of_le (Heap.lt_size e) I.ok.above)
  have neC : ∀ b o, X.s₀.heap.get? b = some o → b ∉ X.ex → b ∉ ch := fun b o e hx hb => by
    rcases (hch b hb).1 with z | z
    · exact hx z
    · exact absurd (Nat.lt_of_lt_of_le (Heap.lt_size e) z) (Nat.lt_irrefl _)
  have cellK : ∀ x c, X.env.cells.lookup x = some c → ∀ v, s.heap.IsCell c v → h'.IsCell c v := fun x c e v ⟨o, ho, hd⟩ => by
    have nch : c ∉ ch := fun z => (hch c z).2.2.1 x c e rfl
    by_cases hc : c ∈ X.fs
    · obtain ⟨sl, q⟩ := slot c o (I.cne x c e) hc nch ho (I.freeC x c e)
      exact ⟨_, q, hd⟩
    · exact ⟨o, keep c o (I.cne x c e) hc nch ho (I.freeC x c e), hd⟩
  refine ⟨I.ok, I.os, hg, ⟨fun b o e n hb hx => ?_, fun b o e n hb hx => ?_, fun b o e n hx => ?_, fun b o e hx => ?_, fun b xs e => tups b xs (I.base.tups b xs e), fun b o xs e => frzs b o xs (I.base.frzs b o xs e), fun b ps e => ?_⟩, ?_, fun x c e => ?_, ?_, fun x c e => ?_, fun p hp => ?_, hok, I.len, fun a o e => let ⟨u, z⟩ := I.hxs a o e; ⟨u, frzs a o u z⟩⟩
  · exact keep b o (neL b o e) hb (neC b o e hx) (I.base.keep b o e n hb hx) (I.base.free b o e n hx)
  · obtain ⟨sl, e1⟩ := I.base.slot b o e n hb hx
    obtain ⟨sl', e2⟩ := slot b _ (neL b o e) hb (neC b o e hx) e1 (I.base.free b o e n hx)
    exact ⟨sl', e2⟩
  · obtain ⟨o', e1⟩ := I.base.there b o e hx
    exact free b o' (neC b o e hx) e1 (I.base.free b o e n hx)
  · obtain ⟨o', e1⟩ := I.base.there b o e hx
    exact there b o' (neC b o e hx) e1
  · obtain ⟨m1, e1⟩ := I.base.tbls b ps e
    obtain ⟨m2, e2⟩ := tbls b _ e1
    exact ⟨m1 ++ m2, by rw [e2, Array.append_assoc]⟩
  · obtain ⟨m, hn, hl⟩ := I.loc
    refine ⟨m, ns m hn, fun i x v e1 e2 e3 => ?_⟩
    obtain ⟨u, r, l⟩ := hl i x v e1 e2 e3
    refine ⟨u, r, ?_⟩
    rcases l with l | ⟨k, c, e, z⟩
    · exact .inl l
    · exact .inr ⟨k, c, e, cellK x c e _ z⟩
  · obtain ⟨v, z⟩ := I.cell x c e
    exact ⟨v, cellK x c e v z⟩
  · obtain ⟨m, ⟨o, _, _, ho, _⟩, _⟩ := I.loc
    exact free _ o (fun z => (hch _ z).2.1 rfl) ho I.free
  · obtain ⟨v, o, ho, hd⟩ := I.cell x c e
    exact free c o (fun z => (hch c z).2.2.1 x c e rfl) ho (I.freeC x c e)
  · obtain ⟨e, n, ne, nf, d⟩ := I.pin p hp
    have nch : p.1 ∉ ch := fun z => (hch p.1 z).2.2.2 p hp rfl
    exact ⟨keep p.1 p.2 ne nf nch e n, free p.1 p.2 nch e n, ne, nf, d⟩
theorem Inv.un {t' : Nat} (I : Inv X pins σ H s) (u : Un X.fs [] H H' s.heap h') (hok : HOk X.prog X.w H' h') : Inv X pins σ H' { s with heap := h', toks := t' } := by
  obtain ⟨m, ⟨o, es, ep, ho, r⟩, _⟩ := id I.loc
  obtain ⟨sl, hL⟩ := u.any ho I.free (by simp)
  exact I.step (g' := s.gens) (d' := s.drawn) (ch := []) (fun _ z => nomatch z) (fun b o _ hb _ e n => u.keep b o e n hb (by simp)) (fun b o _ hb _ e n => u.slot b o e n hb (by simp)) (fun b o _ e n => u.free b o e n (by simp)) (fun b o _ e => u.there b o e (by simp)) u.tups u.frzs u.tbls (fun m' hm => by
    obtain ⟨o', es', ep', ho', r'⟩ := hm
    rw [ho] at ho'; cases ho'
    exact ⟨_, es', ep', hL, r'⟩) hok I.bare
theorem Inv.call {g' : Array GenState} {t' : Nat} {d' : Drawn} {ch : List Addr} (I : Inv X pins σ H s) (u : Un (frs X.stack) ch H H' s.heap h') (hok : HOk X.prog X.w H' h') (hg : AllBare g')
    (hch : ∀ b ∈ ch, (b ∈ X.ex ∨ X.s₀.heap.objs.size ≤ b) ∧ b ≠ X.env.locals ∧ (∀ x c, X.env.cells.lookup x = some c → c ≠ b) ∧ ∀ p ∈ X.pn ++ pins, p.1 ≠ b) :
    Inv X pins σ H' { s with heap := h', gens := g', drawn := d', toks := t' } := by
  obtain ⟨m, ⟨o, es, ep, ho, r⟩, _⟩ := id I.loc
  obtain ⟨sl, hL⟩ := u.any ho I.free fun z => (hch _ z).2.1 rfl
  exact I.step (ch := ch) hch (fun b o hL hb hc e n => u.keep b o e n (fun z => (List.mem_cons.mp (I.stkSub b z)).elim hL hb) hc) (fun b o _ _ hc e n => u.any e n hc) (fun b o hc e n => u.free b o e n hc) (fun b o hc e => u.there b o e hc) u.tups u.frzs u.tbls (fun m' hm => by
    obtain ⟨o', es', ep', ho', r'⟩ := hm
    rw [ho] at ho'; cases ho'
    exact ⟨_, es', ep', hL, r'⟩) hok hg
theorem Inv.turned {t' : Nat} {it : Addr} (I : Inv X pins σ H s) (k : ∀ b o, b ≠ it → s.heap.get? b = some o → h'.get? b = some o) (hn : H it = none) (hL : it ≠ X.env.locals)
    (h1 : it ∈ X.ex ∨ X.s₀.heap.objs.size ≤ it) (h2 : ∀ x c, X.env.cells.lookup x = some c → c ≠ it) (h3 : ∀ p ∈ X.pn ++ pins, p.1 ≠ it) : Inv X pins σ H { s with heap := h', toks := t' } := by
  have nit : ∀ b u, H b = some u → b ≠ it := fun b u e z => by rw [z, hn] at e; cases e
  refine I.step (g' := s.gens) (d' := s.drawn) (ch := [it]) (fun b hb => ?_) (fun b o _ _ hc e _ => k b o (fun z => hc (by simp [z])) e) (fun b o _ _ hc e _ => ⟨o.slots, k b o (fun z => hc (by simp [z])) e⟩) (fun _ _ _ _ n => n)
    (fun b o hc e => ⟨o, k b o (fun z => hc (by simp [z])) e⟩) (fun _ _ e => e) (fun _ _ _ e => e) (fun b ps e => ⟨#[], by rw [e]; simp⟩) (fun m hm => ?_) (fun b u e => ?_) I.bare
  · have e : b = it := by simpa using hb
    subst e
    exact ⟨h1, hL, h2, h3⟩
  · obtain ⟨o, es, ep, ho, r⟩ := hm
    exact ⟨o, es, ep, k _ o (Ne.symm hL) ho, r⟩
  · refine (I.hok b u e).stay (fun c v hc q => k c v ?_ q) (fun _ q => q) fun _ _ q => q
    rcases hc with z | z
    · rw [z]; exact nit b u e
    · exact nit c _ z
theorem Inv.tok (I : Inv X pins σ H s) (t : Nat) : Inv X pins σ H { s with toks := t } := I.un (h' := s.heap) (t' := t) Un.refl I.hok
theorem Inv.kept {t' : Nat} (I : Inv X pins σ H s) (k : ∀ b u, s.heap.get? b = some u → h'.get? b = some u) : Inv X pins σ H { s with heap := h', toks := t' } := I.un (Un.kept k) (I.hok.kept k)
theorem Inv.laid {a : Addr} {o : HO} {t' : Nat} (I : Inv X pins σ H s) (k : ∀ b u, s.heap.get? b = some u → h'.get? b = some u) (hp : s.heap.objs.size ≤ a) (new : ObjOk X.prog X.w (upd H a o) h' a o) :
    Inv X pins σ (upd H a o) { s with heap := h', toks := t' } := I.un (Un.laid k hp (I.hok.fresh hp)) (I.hok.laid k hp new)
theorem Inv.write {x e : Addr} {o : HO} {t' : Nat} (I : Inv X pins σ H s) (mu : Mut (H x)) (he : e = x ∨ H e = some (.own x)) (k : ∀ b u, b ≠ e → s.heap.get? b = some u → h'.get? b = some u) (heo : ∃ u, h'.get? e = some u)
    (new : ObjOk X.prog X.w (upd H x o) h' x o) : Inv X pins σ (upd H x o) { s with heap := h', toks := t' } := I.un (Un.write mu he k heo) (I.hok.write mu he k heo new)
theorem Inv.weak {σ' : List (Option V)} (I : Inv X pins σ H s) (hl : σ'.length = σ.length) (w : ∀ (i : Nat) v, σ'[i]? = some (some v) → σ[i]? = some (some v)) : Inv X pins σ' H s :=
  ⟨I.ok, I.os, I.bare, I.base, let ⟨m, hn, hl'⟩ := I.loc; ⟨m, hn, fun i x v e1 e2 e3 => hl' i x v e1 (w i v e2) e3⟩, I.cell, I.free, I.freeC, I.pin, I.hok, hl.trans I.len, I.hxs⟩
theorem Inv.pins_of {pins' : List (Addr × Obj)} (I : Inv X pins σ H s) (h : ∀ p ∈ pins', s.heap.get? p.1 = some p.2 ∧ H p.1 = none ∧ p.1 ≠ X.env.locals ∧ p.1 ∉ X.fs ∧ ∀ v, p.2.data ≠ .cell v) : Inv X pins' σ H s :=
  ⟨I.ok, I.os, I.bare, I.base, I.loc, I.cell, I.free, I.freeC, fun p hp => (List.mem_append.mp hp).elim (fun z => I.pin p (List.mem_append_left _ z)) (h p), I.hok, I.len, I.hxs⟩
theorem nodup_ix {N : List Str} (hN : N.Nodup) {i j : Nat} {x : Str} (a : N[i]? = some x) (b : N[j]? = some x) : i = j := by
  obtain ⟨h1, e1⟩ := List.getElem?_eq_some_iff.mp a
  obtain ⟨h2, e2⟩ := List.getElem?_eq_some_iff.mp b
  exact (List.getElem_inj hN).mp (e1.trans e2.symm)
theorem store_ok2 {M : Model} {A : Around} {E : Value → Shared → Prop} {i : Nat} {x : Str} {v : V} {u : Value} {Q : Unit → Shared → Prop} (I : Inv X pins σ H s) (hN : X.N.Nodup) (hi : X.N[i]? = some x) (hx : Loc X.env.scope x) (r : RelV v u)
    (h : ∀ s', Inv X pins (σ.set i (some v)) H s' → (∃ a, Heap.SameBut a s.heap s'.heap ∧ (a = X.env.locals ∨ X.env.cells.lookup x = some a)) → Q () s') (hf : X.fn x = true ∨ X.env.scope.names.lookup x = some .local := by first | exact .inl rfl | exact .inr rfl | assumption) : wpAny M A (storeName X.env x u) Q E s := by
  obtain ⟨m, hn, hl⟩ := id I.loc
  have hcls : (X.env.scope.kind == .class || (X.env.scope.kind == .module && X.env.locals != X.env.globals)) = false := by rw [I.ok.kind]; rfl
  have hiσ : i < σ.length := by rw [I.len]; exact (List.getElem?_eq_some_iff.mp hi).1
  have cne := I.cne
  have tracked : ∀ {a : Addr} {h' : Heap}, (∃ o, s.heap.get? a = some o ∧ H a = none) → Heap.SameBut a s.heap h' → HOk X.prog X.w H h' := fun {a h'} ha hs b ob e => by
    obtain ⟨_, _, hfree⟩ := ha
    refine (I.hok b ob e).stay (fun c w' hc q => (hs.2 c ?_).trans q) (fun _ q => q) fun _ _ q => q
    rintro rfl
    rcases hc with rfl | hc
    · rw [hfree] at e; cases e
    · rw [hfree] at hc; cases hc
  rcases hx with hk | hk
  · refine wpAny_storeName_local hk hn (fun h' hn' hs => ?_) hcls
    obtain ⟨oL, _, _, hoL, _⟩ := id hn
    refine h _ ⟨I.ok, I.os, I.bare, ⟨fun b o e n hb hx => ?_, fun b o e n hb hx => ?_, I.base.free, fun b o e hx => ?_, I.base.tups, I.base.frzs, I.base.tbls⟩, ⟨_, hn', fun j y v' e1 e2 e3 => ?_⟩, fun y c e => ?_, I.free, I.freeC, fun p hp => ?_, tracked ⟨oL, hoL, I.free⟩ hs, by simpa using I.len, I.hxs⟩ ⟨_, hs, .inl rfl⟩
    · exact (hs.2 b (Nat.ne_of_lt (Nat.lt_of_lt_of_le (Heap.lt_size e) I.ok.above))).trans (I.base.keep b o e n hb hx)
    · obtain ⟨sl, e1⟩ := I.base.slot b o e n hb hx
      exact ⟨sl, (hs.2 b (Nat.ne_of_lt (Nat.lt_of_lt_of_le (Heap.lt_size e) I.ok.above))).trans e1⟩
    · obtain ⟨o', e1⟩ := I.base.there b o e hx
      exact ⟨o', (hs.2 b (Nat.ne_of_lt (Nat.lt_of_lt_of_le (Heap.lt_size e) I.ok.above))).trans e1⟩
    · by_cases hj : j = i
      · subst hj
        rw [hi] at e1; cases e1
        rw [List.getElem?_set_self hiσ] at e2
        cases e2
        exact ⟨u, r, .inl ⟨hk, by simp⟩⟩
      · rw [List.getElem?_set_ne (Ne.symm hj)] at e2
        obtain ⟨u', r', q⟩ := hl j y v' e1 e2 e3
        refine ⟨u', r', ?_⟩
        rcases q with ⟨k, e⟩ | ⟨k, c, e, z⟩
        · refine .inl ⟨k, ?_⟩
          have : y ≠ x := fun e => hj (nodup_ix hN e1 (e ▸ hi))
          simp [this, e]
        · exact .inr ⟨k, c, e, z.sameBut hs (cne y c e)⟩
    · obtain ⟨w', z⟩ := I.cell y c e
      exact ⟨w', z.sameBut hs (cne y c e)⟩
    · obtain ⟨e, n, ne, nf, d⟩ := I.pin p hp
      exact ⟨(hs.2 p.1 ne).trans e, n, ne, nf, d⟩
  · have hfn : X.fn x = true := by
      rcases hf with z | z
      · exact z
      · rw [z] at hk; cases hk
    obtain ⟨c, hc⟩ := I.ok.has x (.inl hk)
    obtain ⟨w', z⟩ := I.cell x c hc
    refine wpAny_storeName_cell I.ok.kind hk hc z (fun h' hc' hs => ?_)
    obtain ⟨oc, hoc, hocd⟩ := id z
    refine h { s with heap := h' } ⟨I.ok, I.os, I.bare, ⟨fun b o e n hb hx => ?_, fun b o e n hb hx => ?_, I.base.free, fun b o e hx => ?_, I.base.tups, I.base.frzs, I.base.tbls⟩, ⟨m, hn.sameBut hs (Ne.symm (cne x c hc)), fun j y v' e1 e2 e3 => ?_⟩, fun y c' e => ?_, I.free, I.freeC, fun p hp => ?_, tracked ⟨oc, hoc, I.freeC x c hc⟩ hs, by simpa using I.len, I.hxs⟩ ⟨c, hs, .inr hc⟩
    · exact (hs.2 b (Nat.ne_of_lt (Nat.lt_of_lt_of_le (Heap.lt_size e) (I.ok.cab x c hfn hc)))).trans (I.base.keep b o e n hb hx)
    · obtain ⟨sl, e1⟩ := I.base.slot b o e n hb hx
      exact ⟨sl, (hs.2 b (Nat.ne_of_lt (Nat.lt_of_lt_of_le (Heap.lt_size e) (I.ok.cab x c hfn hc)))).trans e1⟩
    · obtain ⟨o', e1⟩ := I.base.there b o e hx
      exact ⟨o', (hs.2 b (Nat.ne_of_lt (Nat.lt_of_lt_of_le (Heap.lt_size e) (I.ok.cab x c hfn hc)))).trans e1⟩
    · by_cases hj : j = i
      · subst hj
        rw [hi] at e1; cases e1
        rw [List.getElem?_set_self hiσ] at e2
        cases e2
        exact ⟨u, r, .inr ⟨.inl hk, c, hc, hc'⟩⟩
      · rw [List.getElem?_set_ne (Ne.symm hj)] at e2
        obtain ⟨u', r', q⟩ := hl j y v' e1 e2 e3
        refine ⟨u', r', ?_⟩
        rcases q with q | ⟨k, c', e, z'⟩
        · exact .inl q
        · refine .inr ⟨k, c', e, z'.sameBut hs ?_⟩
          rintro rfl
          exact hj (nodup_ix hN e1 (I.ok.inj _ _ _ e hc ▸ hi))
    · by_cases hcc : c' = c
      · subst hcc; exact ⟨_, hc'⟩
      · obtain ⟨w2, z2⟩ := I.cell y c' e
        exact ⟨w2, z2.sameBut hs hcc⟩
    · obtain ⟨e, n, ne, nf, d⟩ := I.pin p hp
      refine ⟨(hs.2 p.1 ?_).trans e, n, ne, nf, d⟩
      intro q
      rw [q, hoc] at e
      have q' : oc = p.2 := Option.some.inj e
      exact d w' (by rw [← q']; exact hocd)
theorem store_ok {M : Model} {A : Around} {E : Value → Shared → Prop} {i : Nat} {x : Str} {v : V} {u : Value} {Q : Unit → Shared → Prop} (I : Inv X pins σ H s) (hN : X.N.Nodup) (hi : X.N[i]? = some x) (hx : Loc X.env.scope x) (r : RelV v u)
    (h : ∀ s', Inv X pins (σ.set i (some v)) H s' → Q () s') (hf : X.fn x = true ∨ X.env.scope.names.lookup x = some .local := by first | exact .inl rfl | exact .inr rfl | assumption) : wpAny M A (storeName X.env x u) Q E s :=
  store_ok2 I hN hi hx r (fun s' I' _ => h s' I') hf
theorem Inv.call' {s' : Shared} {ch : List Addr} (I : Inv X pins σ H s) (ho : s'.os = s.os) (u : Un (frs X.stack) ch H H' s.heap s'.heap) (hok : HOk X.prog X.w H' s'.heap) (hg : AllBare s'.gens)
    (hch : ∀ b ∈ ch, (b ∈ X.ex ∨ X.s₀.heap.objs.size ≤ b) ∧ b ≠ X.env.locals ∧ (∀ x c, X.env.cells.lookup x = some c → c ≠ b) ∧ ∀ p ∈ X.pn ++ pins, p.1 ≠ b) : Inv X pins σ H' s' := by
  obtain ⟨h', g', d', t', o'⟩ := s'
  have e : o' = s.os := ho
  subst e
  exact I.call (g' := g') (t' := t') (d' := d') u hok hg hch
end
noncomputable abbrev XK := Value → Option Addr → Hp → Prop
noncomputable abbrev St := List (Option V)
noncomputable abbrev VK := V → Hp → Prop
noncomputable abbrev TE := St → Hp → VK → Prop
noncomputable abbrev TT := St → Hp → (Bool → Hp → Prop) → Prop
noncomputable abbrev TA := St → Hp → (List V → Hp → Prop) → Prop
structure Ends where
  nx : St → Hp → Prop
  rt : VK
  bk : St → Hp → Prop := fun _ _ => False
  ct : St → Hp → Prop := fun _ _ => False
noncomputable abbrev TS := Ends → St → Hp → Prop
noncomputable def EP (X : Cx) (pins : List (Addr × Obj)) (σ : St) (Q : VK) (u : Value) (s' : Shared) : Prop := ∃ v H', Inv X pins σ H' s' ∧ RelV v u ∧ Q v H'
noncomputable def TP (X : Cx) (pins : List (Addr × Obj)) (σ : St) (Q : Bool → Hp → Prop) (b : Bool) (s' : Shared) : Prop := ∃ H', Inv X pins σ H' s' ∧ Q b H'
noncomputable def AP (X : Cx) (pins : List (Addr × Obj)) (σ : St) (Q : List V → Hp → Prop) (us : List Value) (s' : Shared) : Prop := ∃ vs H', Inv X pins σ H' s' ∧ Vals vs us ∧ Q vs H'
noncomputable def SP (X : Cx) (pins : List (Addr × Obj)) (D : Ends) (f : Flow) (s' : Shared) : Prop :=
  match f with
  | .next => ∃ σ' H', Inv X pins σ' H' s' ∧ D.nx σ' H'
  | .brk => ∃ σ' H', Inv X pins σ' H' s' ∧ D.bk σ' H'
  | .cont => ∃ σ' H', Inv X pins σ' H' s' ∧ D.ct σ' H'
  | .ret u => ∃ v σ' H', Inv X pins σ' H' s' ∧ RelV v u ∧ D.rt v H'
structure PE (X : Cx) (e : Expr) (t : TE) : Prop where
  run : ∀ (pins : List (Addr × Obj)) (s : Shared) (σ : St) (H : Hp) (Q : VK), Inv X pins σ H s → t σ H Q → wpAny (model X.prog X.w) X.A (eval e X.env) (EP X pins σ Q) X.xe s
instance {X : Cx} {e : Expr} {t : TE} : CoeFun (PE X e t) (fun _ => ∀ (pins : List (Addr × Obj)) (s : Shared) (σ : St) (H : Hp) (Q : VK), Inv X pins σ H s → t σ H Q → wpAny (model X.prog X.w) X.A (eval e X.env) (EP X pins σ Q) X.xe s) := ⟨fun h => h.run⟩
structure PT (X : Cx) (e : Expr) (t : TT) : Prop where
  run : ∀ (pins : List (Addr × Obj)) (s : Shared) (σ : St) (H : Hp) (Q : Bool → Hp → Prop), Inv X pins σ H s → t σ H Q → wpAny (model X.prog X.w) X.A (isTrue e X.env (eval e X.env)) (TP X pins σ Q) X.xe s
instance {X : Cx} {e : Expr} {t : TT} : CoeFun (PT X e t) (fun _ => ∀ (pins : List (Addr × Obj)) (s : Shared) (σ : St) (H : Hp) (Q : Bool → Hp → Prop), Inv X pins σ H s → t σ H Q → wpAny (model X.prog X.w) X.A (isTrue e X.env (eval e X.env)) (TP X pins σ Q) X.xe s) := ⟨fun h => h.run⟩
structure PW (X : Cx) (e : Expr) (t : TT) : Prop where
  run : ∀ (whole : Sem Value) (pins : List (Addr × Obj)) (s : Shared) (σ : St) (H : Hp) (Q : Bool → Hp → Prop), Inv X pins σ H s → t σ H Q → wpAny (model X.prog X.w) X.A (isTrue e X.env whole) (TP X pins σ Q) X.xe s
instance {X : Cx} {e : Expr} {t : TT} : CoeFun (PW X e t) (fun _ => ∀ (whole : Sem Value) (pins : List (Addr × Obj)) (s : Shared) (σ : St) (H : Hp) (Q : Bool → Hp → Prop), Inv X pins σ H s → t σ H Q → wpAny (model X.prog X.w) X.A (isTrue e X.env whole) (TP X pins σ Q) X.xe s) := ⟨fun h => h.run⟩
theorem PW.pt {X : Cx} {e : Expr} {t : TT} (h : PW X e t) : PT X e t := .mk (h _)
structure PA (X : Cx) (es : List Expr) (t : TA) : Prop where
  run : ∀ (pos : Pos) (pins : List (Addr × Obj)) (s : Shared) (σ : St) (H : Hp) (Q : List V → Hp → Prop), Inv X pins σ H s → t σ H Q → wpAny (model X.prog X.w) X.A (spliced (backTo pos (starEach es X.env))) (AP X pins σ Q) X.xe s
instance {X : Cx} {es : List Expr} {t : TA} : CoeFun (PA X es t) (fun _ => ∀ (pos : Pos) (pins : List (Addr × Obj)) (s : Shared) (σ : St) (H : Hp) (Q : List V → Hp → Prop), Inv X pins σ H s → t σ H Q → wpAny (model X.prog X.w) X.A (spliced (backTo pos (starEach es X.env))) (AP X pins σ Q) X.xe s) := ⟨fun h => h.run⟩
structure PS (X : Cx) (st : Stmt) (t : TS) : Prop where
  run : ∀ (pins : List (Addr × Obj)) (s : Shared) (σ : St) (H : Hp) (D : Ends), Inv X pins σ H s → t D σ H → wpAny (model X.prog X.w) X.A (exec st X.env) (SP X pins D) X.xe s
instance {X : Cx} {st : Stmt} {t : TS} : CoeFun (PS X st t) (fun _ => ∀ (pins : List (Addr × Obj)) (s : Shared) (σ : St) (H : Hp) (D : Ends), Inv X pins σ H s → t D σ H → wpAny (model X.prog X.w) X.A (exec st X.env) (SP X pins D) X.xe s) := ⟨fun h => h.run⟩
structure PSs (X : Cx) (st : List Stmt) (t : TS) : Prop where
  run : ∀ (pins : List (Addr × Obj)) (s : Shared) (σ : St) (H : Hp) (D : Ends), Inv X pins σ H s → t D σ H → wpAny (model X.prog X.w) X.A (execs st X.env) (SP X pins D) X.xe s
instance {X : Cx} {st : List Stmt} {t : TS} : CoeFun (PSs X st t) (fun _ => ∀ (pins : List (Addr × Obj)) (s : Shared) (σ : St) (H : Hp) (D : Ends), Inv X pins σ H s → t D σ H → wpAny (model X.prog X.w) X.A (execs st X.env) (SP X pins D) X.xe s) := ⟨fun h => h.run⟩
theorem thn {α : Type} {t : Sem α} {Q Q' : α → Shared → Prop} {M : Model} {A : Around} {E : Value → Shared → Prop} {s : Shared} (h : wpAny M A t Q E s) (hQ : ∀ a s, Q a s → Q' a s) : wpAny M A t Q' E s := wpAny_mono h hQ fun _ _ x => x
end L2
namespace L2
open PySem PySem.Spec PyProof.Rows
section
variable {X : Cx}
noncomputable def tVar (i : Nat) : TE := fun σ H Q => ∃ v, σ[i]? = some (some v) ∧ Q v H
noncomputable def tC (v : V) : TE := fun _ H Q => Q v H
theorem pe_var {i : Nat} {x : Str} {pos : Pos} (hN : X.N[i]? = some x) (hv : Vis X.env.scope x) (hd : (x == ("__debug__" : Str)) = false := by decide) (hcd : (x == ("__classdict__" : Str)) = false := by decide) : PE X (.Name x pos) (tVar i) := by
  constructor
  intro pins s σ H Q I h
  obtain ⟨v, e, h⟩ := h
  obtain ⟨m, hn, hl⟩ := I.loc
  obtain ⟨u, r, l⟩ := hl i x v hN e hv
  have fin : EP X pins σ Q u s := ⟨v, H, I, r, h⟩
  rcases l with ⟨hk, hm⟩ | ⟨hk, c, hc, hcell⟩
  · exact wpAny_Name (wpAny_loadName_local I.ok.kind hk hn hm fin) hd
  · rcases hk with hk | hk
    · exact wpAny_Name (wpAny_loadName_cell I.ok.kind hk hc hcell fin) hd
    · exact wpAny_Name (wpAny_loadName_free I.ok.kind hk hc hcell fin hcd) hd
theorem pe_int {i j pos} : PE X (.Constant (.int i) j pos) (tC (.int i)) := .mk fun _ _ _ H _ I h => wpAny_Constant_int ⟨.int i, H, I.tok _, ⟨_, rfl⟩, h⟩
theorem pe_bl {b j pos} : PE X (.Constant (.bool b) j pos) (tC (.bl b)) := .mk fun _ _ _ H _ I h => Constant_bool ⟨.bl b, H, I, rfl, h⟩
theorem pe_non {j pos} : PE X (.Constant .none j pos) (tC .non) := .mk fun _ _ _ H _ I h => Constant_none ⟨.non, H, I, rfl, h⟩
theorem pe_str {x j pos} : PE X (.Constant (.str x) j pos) (tC (.str x)) := .mk fun _ _ _ H _ I h => Calls.Constant_str ⟨.str x, H, I.tok _, ⟨_, rfl⟩, h⟩
noncomputable def Gl (X : Cx) (x : Str) : Prop := X.env.kindOf x = some .globalImplicit
theorem ld_glob {E : Value → Shared → Prop} {pins : List (Addr × Obj)} {s : Shared} {σ : St} {H : Hp} {x : Str} {u : Value} {pos : Pos} {Q : Value → Shared → Prop} (I : Inv X pins σ H s) (hg : Gl X x) (hm : X.mg x = some u) (h : Q u s)
    (hd : (x == ("__debug__" : Str)) = false := by decide) : wpAny (model X.prog X.w) X.A (eval (.Name x pos) X.env) Q E s :=
  Calls.Name_function_global I.ok.kind hg (Calls.loadGlobal_global (by rw [I.ok.glob]; exact I.mod.glob.keeps I.bk) hm h) hd
theorem ld_blt {E : Value → Shared → Prop} {pins : List (Addr × Obj)} {s : Shared} {σ : St} {H : Hp} {x : Str} {u : Value} {pos : Pos} {Q : Value → Shared → Prop} (I : Inv X pins σ H s) (hg : Gl X x) (hm : X.mg x = none) (hv : bootBuiltins x = some u) (h : Q u s)
    (hn : x ≠ "__name__" := by decide) (hd : (x == ("__debug__" : Str)) = false := by decide) : wpAny (model X.prog X.w) X.A (eval (.Name x pos) X.env) Q E s := by
  obtain ⟨mb, h1, h2⟩ := I.mod.blt
  exact Calls.Name_function_global I.ok.kind hg (Calls.loadGlobal_builtin (by rw [I.ok.glob]; exact I.mod.glob.keeps I.bk) hm (by rw [I.ok.blt]; exact h1.keeps I.bk) ((h2 x hn).trans hv) h) hd
theorem pe_glob {x : Str} {v : V} {u : Value} {pos : Pos} (hg : Gl X x) (hm : X.mg x = some u) (r : RelV v u) (hd : (x == ("__debug__" : Str)) = false := by decide) : PE X (.Name x pos) (tC v) :=
  .mk fun _ _ _ H _ I h => ld_glob I hg hm ⟨v, H, I, r, h⟩ hd
theorem pe_bltn {x : Str} {v : V} {u : Value} {pos : Pos} (hg : Gl X x) (hm : X.mg x = none) (hv : bootBuiltins x = some u) (r : RelV v u) (hn : x ≠ "__name__" := by decide) (hd : (x == ("__debug__" : Str)) = false := by decide) : PE X (.Name x pos) (tC v) :=
  .mk fun _ _ _ H _ I h => ld_blt I hg hm hv ⟨v, H, I, r, h⟩ hn hd
noncomputable def t2I (ta tb : TE) (k : Int → Int → Hp → Prop) : St → Hp → Prop := fun σ H => ta σ H fun x H1 => tb σ H1 fun y H2 => ∃ i j, x = .int i ∧ y = .int j ∧ k i j H2
noncomputable def tAdd (ta tb : TE) : TE := fun σ H Q => t2I ta tb (fun i j H2 => Q (.int (i + j)) H2) σ H
noncomputable def tSub (ta tb : TE) : TE := fun σ H Q => t2I ta tb (fun i j H2 => Q (.int (i - j)) H2) σ H
noncomputable def tMul (ta tb : TE) : TE := fun σ H Q => t2I ta tb (fun i j H2 => (-(2 ^ 64) < i ∧ i < 2 ^ 64) ∧ Q (.int (i * j)) H2) σ H
variable {a b : Expr} {ta tb : TE} {pos : Pos}
structure PC (X : Cx) (op : CmpOp) (a b : Expr) (t : TE) : Prop where
  run : ∀ (pins : List (Addr × Obj)) (s : Shared) (σ : St) (H : Hp) (Q : VK), Inv X pins σ H s → t σ H Q →
    wpAny (model X.prog X.w) X.A (eval a X.env) (fun v s₁ => wpAny (model X.prog X.w) X.A (eval b X.env) (fun u s₂ => wpAny (model X.prog X.w) X.A (compareOp op v u) (EP X pins σ Q) X.xe s₂) X.xe s₁) X.xe s
instance {X : Cx} {op : CmpOp} {a b : Expr} {t : TE} : CoeFun (PC X op a b t) (fun _ => ∀ (pins : List (Addr × Obj)) (s : Shared) (σ : St) (H : Hp) (Q : VK), Inv X pins σ H s → t σ H Q →
    wpAny (model X.prog X.w) X.A (eval a X.env) (fun v s₁ => wpAny (model X.prog X.w) X.A (eval b X.env) (fun u s₂ => wpAny (model X.prog X.w) X.A (compareOp op v u) (EP X pins σ Q) X.xe s₂) X.xe s₁) X.xe s) := ⟨fun h => h.run⟩
noncomputable def tCmp (p : Int → Int → Bool) (ta tb : TE) : TE := fun σ H Q => t2I ta tb (fun i j H2 => Q (.bl (p i j)) H2) σ H
noncomputable abbrev tLt : TE → TE → TE := tCmp fun i j => decide (i < j)
noncomputable abbrev tLe : TE → TE → TE := tCmp fun i j => decide (i ≤ j)
noncomputable abbrev tGt : TE → TE → TE := tCmp fun i j => decide (j < i)
noncomputable abbrev tGe : TE → TE → TE := tCmp fun i j => decide (j ≤ i)
noncomputable abbrev tEqI : TE → TE → TE := tCmp fun i j => decide (i = j)
noncomputable abbrev tNeI : TE → TE → TE := tCmp fun i j => !decide (i = j)
noncomputable def tIsN (ta : TE) : TE := fun σ H Q => ta σ H fun x H1 => Q (.bl (decide (x = .non))) H1
noncomputable def tNotN (ta : TE) : TE := fun σ H Q => ta σ H fun x H1 => Q (.bl (!decide (x = .non))) H1
noncomputable def tB (t : TE) : TT := fun σ H Q => t σ H fun x H1 => ∃ c, x = .bl c ∧ Q c H1
theorem pt_cmp {op : CmpOp} {t : TE} (h : PC X op a b t) (h1 : behindInMarks op b = false := by first | exact nobehind _ (by decide) (by decide) | rfl) : PT X (.Compare a [op] [b] pos) (tB t) := by
  constructor
  intro pins s σ H Q I hw
  refine wpAny_isTrue_Compare1 (thn (h pins s σ H _ I hw) fun v s1 h1 => thn h1 fun u s2 h2 => thn h2 fun c s3 ⟨x, H1, I1, r1, q1⟩ => ?_) h1
  obtain ⟨d, rfl, q⟩ := q1
  cases r1
  exact wpAny_truthy_bool ⟨H1, I1, q⟩
theorem pt_val {e : Expr} {t : TE} (h : PE X e t) (he : ∀ whole, isTrue e X.env whole = (do let v ← whole; standAt e.pos; holding [v] (truthy v)) := by intro _; rfl) : PT X e (tB t) := by
  constructor
  intro pins s σ H Q I hw
  refine isTrue_plain (thn (h pins s σ H _ I hw) fun v s1 ⟨x, H1, I1, r1, q1⟩ => ?_) (he _)
  obtain ⟨d, rfl, q⟩ := q1
  cases r1
  exact wpAny_truthy_bool ⟨H1, I1, q⟩
variable {tA tB' : TT} {rest : List Expr}
noncomputable def tAnd (t u : TT) : TT := fun σ H Q => t σ H fun c H1 => if c = true then u σ H1 Q else Q false H1
noncomputable def tOr (t u : TT) : TT := fun σ H Q => t σ H fun c H1 => if c = true then Q true H1 else u σ H1 Q
noncomputable def tNot (t : TT) : TT := fun σ H Q => t σ H fun c H1 => Q (!c) H1
theorem pw_or1 (ha : PT X a tA) : PW X (.BoolOp .Or [a] pos) tA := by
  constructor
  intro wh pins s σ H Q I h
  refine isTrue_or (thn (ha pins s σ H Q I h) fun c s1 e => ?_)
  cases c with
  | false => exact isTrue_or_nil e
  | true => exact e
theorem pw_or (ha : PT X a tA) (hb : PW X (.BoolOp .Or (b :: rest) pos) tB') : PW X (.BoolOp .Or (a :: b :: rest) pos) (tOr tA tB') := by
  constructor
  intro wh pins s σ H Q I h
  refine isTrue_or (thn (ha pins s σ H _ I h) fun c s1 ⟨H1, I1, q1⟩ => ?_)
  cases c with
  | true => exact ⟨H1, I1, q1⟩
  | false => exact hb wh pins s1 σ H1 Q I1 q1
theorem pt_not (ha : PT X a tA) : PT X (.UnaryOp .Not a pos) (tNot tA) := by
  constructor
  intro pins s σ H Q I h
  exact isTrue_not (ha pins s σ H (fun c H1 => Q (!c) H1) I h)
noncomputable def tAndV (ta tb : TE) : TE := fun σ H Q => ta σ H fun x H1 => ∃ c, x = .bl c ∧ if c = true then tb σ H1 Q else Q (.bl false) H1
noncomputable def tOrV (ta tb : TE) : TE := fun σ H Q => ta σ H fun x H1 => ∃ c, x = .bl c ∧ if c = true then Q (.bl true) H1 else tb σ H1 Q
noncomputable def tNotV (ta : TE) : TE := fun σ H Q => ta σ H fun x H1 => ∃ c, x = .bl c ∧ Q (.bl (!c)) H1
theorem pe_one {op} {t : TE} (h : PE X a t) : PE X (.BoolOp op [a] pos) t := .mk fun pins s σ H Q I hw => BoolOp_one (h pins s σ H Q I hw)
theorem pe_and (ha : PE X a ta) (hb : PE X (.BoolOp .And (b :: rest) pos) tb) : PE X (.BoolOp .And (a :: b :: rest) pos) (tAndV ta tb) := by
  constructor
  intro pins s σ H Q I h
  refine BoolOp_and (thn (ha pins s σ H _ I h) fun v s1 ⟨x, H1, I1, r1, q1⟩ => ?_)
  obtain ⟨c, rfl, q1⟩ := q1
  cases r1
  refine wpAny_truthy_bool ?_
  cases c with
  | true => exact hb pins s1 σ H1 Q I1 q1
  | false => exact ⟨.bl false, H1, I1, rfl, q1⟩
noncomputable def tIf (t : TT) (ta tb : TE) : TE := fun σ H Q => t σ H fun c H1 => if c = true then ta σ H1 Q else tb σ H1 Q
end
end L2
namespace L2
open PySem PySem.Spec PyProof.Rows
noncomputable def SqL (K : PySem.W.Frag) (H : Hp) (a : Addr) (xs : List V) : Prop :=
  Rd H a (.lst xs) ∨
    ∃ (o : Obj) (its : Array Value) (n : Nat), K.lookup a = some o ∧ o.cls = .type "list" ∧ o.dict = none ∧ o.data = .seq its n ∧ its.size ≤ sizeLine ∧ Vals xs its.toList
noncomputable def SqT (K : PySem.W.Frag) (H : Hp) (a : Addr) (xs : List V) : Prop :=
  Rd H a (.tup xs) ∨
    ∃ (o : Obj) (its : Array Value) (n : Nat), K.lookup a = some o ∧ o.cls = .type "tuple" ∧ o.data = .seq its n ∧ its.size ≤ sizeLine ∧ Vals xs its.toList
noncomputable def absV : Value → Option V
  | .none => some .non
  | .bool b => some (.bl b)
  | .int i _ => some (.int i)
  | .str x _ => some (.str x)
  | .bytes b _ => some (.byt b)
  | .float b _ => some (.flt b)
  | .ref a => some (.ref a)
  | .type n => some (.ty n)
  | _ => none
theorem RelV.abs {x : V} {u : Value} (r : RelV x u) : absV u = some x := by
  cases x with
  | non => cases r; rfl
  | bl _ => cases r; rfl
  | int _ => obtain ⟨t, rfl⟩ := r; rfl
  | str _ => obtain ⟨t, rfl⟩ := r; rfl
  | byt _ => obtain ⟨t, rfl⟩ := r; rfl
  | flt _ => obtain ⟨t, rfl⟩ := r; rfl
  | ref _ => cases r; rfl
  | ty _ => cases r; rfl
theorem RelV.inj {x y : V} {u : Value} (r : RelV x u) (q : RelV y u) : x = y := Option.some.inj (r.abs.symm.trans q.abs)
theorem Vals.inj : ∀ {xs ys : List V} {us : List Value}, Vals xs us → Vals ys us → xs = ys
  | _, _, _, .nil, .nil => rfl
  | _, _, _, .cons r t, .cons r' t' => by rw [r.inj r', Vals.inj t t']
section
variable {X : Cx} {pins : List (Addr × Obj)} {σ : St} {H : Hp} {s : Shared} {a : Addr} {xs ys : List V}
theorem SqL.of {K : PySem.W.Frag} (h : H a = some (.lst xs)) : SqL K H a xs := .inl (.inl h)
theorem SqT.of {K : PySem.W.Frag} (h : H a = some (.tup xs)) : SqT K H a xs := .inl (.inl h)
theorem Inv.list (I : Inv X pins σ H s) (h : SqL X.K H a xs) : ∃ its : List Value, Vals xs its ∧ PlainL s.heap a its.toArray ∧ xs.length ≤ sizeLine := by
  rcases h with h | ⟨o, its, n, hk, hc, hd, hs, hz, r⟩
  · obtain ⟨z, its, n, r, e⟩ := h.ok I.hok
    exact ⟨its, r, ⟨_, n, e, rfl, rfl, rfl⟩, z⟩
  · refine ⟨its.toList, r, ⟨o, n, I.kIn a o hk, hc, hd, by simpa using hs⟩, ?_⟩
    have e := r.length
    simp only [Array.length_toList] at e
    omega
theorem Inv.tuple (I : Inv X pins σ H s) (h : SqT X.K H a xs) : ∃ its : List Value, Vals xs its ∧ IsTup s.heap a its.toArray ∧ xs.length ≤ sizeLine := by
  rcases h with h | ⟨o, its, n, hk, hc, hs, hz, r⟩
  · obtain ⟨z, its, r, p⟩ := h.ok I.hok
    exact ⟨its, r, p, z⟩
  · refine ⟨its.toList, r, ⟨o, I.kIn a o hk, hc, n, by simpa using hs⟩, ?_⟩
    have e := r.length
    simp only [Array.length_toList] at e
    omega
theorem Inv.list_inj (I : Inv X pins σ H s) (h : SqL X.K H a xs) (h' : SqL X.K H a ys) : xs = ys := by
  obtain ⟨its, r, ⟨o, n, e, _, _, d⟩, _⟩ := I.list h
  obtain ⟨its', r', ⟨o', n', e', _, _, d'⟩, _⟩ := I.list h'
  rw [e] at e'; cases e'
  rw [d] at d'
  injection d' with d1 _
  have : its = its' := by simpa using congrArg Array.toList d1
  subst this
  exact r.inj r'
theorem Inv.tuple_inj (I : Inv X pins σ H s) (h : SqT X.K H a xs) (h' : SqT X.K H a ys) : xs = ys := by
  obtain ⟨its, r, ⟨o, e, _, n, d⟩, _⟩ := I.tuple h
  obtain ⟨its', r', ⟨o', e', _, n', d'⟩, _⟩ := I.tuple h'
  rw [e] at e'; cases e'
  rw [d] at d'
  injection d' with d1 _
  have : its = its' := by simpa using congrArg Array.toList d1
  subst this
  exact r.inj r'
end
noncomputable abbrev Cx.wish (X : Cx) (E : Value → Shared → Prop) : Cx := { X with xe := E }
noncomputable abbrev Cx.nox (X : Cx) : Cx := X.wish fun _ _ => False
theorem Cx.Ok.wish {X : Cx} (ok : X.Ok) (E : Value → Shared → Prop) : (X.wish E).Ok :=
  ⟨ok.mod, ok.kind, ok.glob, ok.blt, ok.above, ok.inj, ok.has, ok.cab, ok.hd, ok.frames, ok.stk, ok.exf, ok.bs, ok.bsz, ok.noex, ok.exfs, ok.funs, ok.frf, ok.hnd⟩
theorem Cx.Ok.unwish {X : Cx} {E : Value → Shared → Prop} (ok : (X.wish E).Ok) : X.Ok :=
  ⟨ok.mod, ok.kind, ok.glob, ok.blt, ok.above, ok.inj, ok.has, ok.cab, ok.hd, ok.frames, ok.stk, ok.exf, ok.bs, ok.bsz, ok.noex, ok.exfs, ok.funs, ok.frf, ok.hnd⟩
section
variable {X : Cx} {pins : List (Addr × Obj)} {σ : St} {H : Hp} {s : Shared} {E : Value → Shared → Prop}
theorem Inv.wish (I : Inv X pins σ H s) (E : Value → Shared → Prop) : Inv (X.wish E) pins σ H s := ⟨I.ok.wish E, I.os, I.bare, I.base, I.loc, I.cell, I.free, I.freeC, I.pin, I.hok, I.len, I.hxs⟩
theorem Inv.unwish (I : Inv (X.wish E) pins σ H s) : Inv X pins σ H s := ⟨I.ok.unwish, I.os, I.bare, I.base, I.loc, I.cell, I.free, I.freeC, I.pin, I.hok, I.len, I.hxs⟩
theorem SP.unwish {D : Ends} {f : Flow} {s' : Shared} (h : SP (X.wish E) pins D f s') : SP X pins D f s' := by
  cases f with
  | next => obtain ⟨σ', H', I, q⟩ := h; exact ⟨σ', H', I.unwish, q⟩
  | brk => obtain ⟨σ', H', I, q⟩ := h; exact ⟨σ', H', I.unwish, q⟩
  | cont => obtain ⟨σ', H', I, q⟩ := h; exact ⟨σ', H', I.unwish, q⟩
  | ret u => obtain ⟨v, σ', H', I, r, q⟩ := h; exact ⟨v, σ', H', I.unwish, r, q⟩
end
section
variable {X : Cx} {st : Stmt} {rest : List Stmt} {t u : TS} {e : Expr} {te : TE} {pos : Pos}
noncomputable def tNext : TS := fun D σ H => D.nx σ H
noncomputable def tSeq (t u : TS) : TS := fun D σ H => t { D with nx := u D } σ H
theorem pss_nil : PSs X [] tNext := .mk fun _ _ σ H _ I h => wpAny_execs_nil ⟨σ, H, I, h⟩
theorem pss_cons (h1 : PS X st t) (h2 : PSs X rest u) : PSs X (st :: rest) (tSeq t u) := by
  constructor
  intro pins s σ H D I h
  refine wpAny_execs_cons (thn (h1 pins s σ H { D with nx := u D } I h) fun f s1 q => ?_)
  cases f with
  | next =>
    obtain ⟨σ', H', I', q⟩ := q
    exact h2 pins s1 σ' H' D I' q
  | ret v => exact q
  | brk => exact q
  | cont => exact q
theorem pss_one (h1 : PS X st t) : PSs X [st] t := by
  constructor
  intro pins s σ H D I h
  refine wpAny_execs_cons (thn (h1 pins s σ H D I h) fun f s1 q => ?_)
  cases f with
  | next => exact wpAny_execs_nil q
  | ret v => exact q
  | brk => exact q
  | cont => exact q
noncomputable def tBreak : TS := fun D σ H => D.bk σ H
noncomputable def tCont : TS := fun D σ H => D.ct σ H
theorem Inv.quiet {pins : List (Addr × Obj)} {σ : St} {H : Hp} {s : Shared} (I : Inv X pins σ H s) : interactive X.env = false := by simp [interactive, I.ok.kind]
noncomputable def tDrop (te : TE) : TS := fun D σ H => te σ H fun _ H1 => D.nx σ H1
theorem ps_expr (he : PE X e te) (hs : swapsWith e none pos.line X.env = pure false := by rfl) : PS X (.Expr e pos) (tDrop te) := by
  constructor
  intro pins s σ H D I h
  exact wpAny_Expr_any (thn (he pins s σ H _ I h) fun v s1 ⟨x, H1, I1, r1, q1⟩ => ⟨σ, H1, I1, q1⟩) I.quiet hs
noncomputable def tRet (te : TE) : TS := fun D σ H => te σ H D.rt
theorem ps_ret (he : PE X e te) : PS X (.Return (some e) pos) (tRet te) := by
  constructor
  intro pins s σ H D I h
  exact wpAny_Return_some (thn (he pins s σ H _ I h) fun v s1 ⟨x, H1, I1, r1, q1⟩ => ⟨x, σ, H1, I1, r1, q1⟩)
noncomputable def tRetN : TS := fun D _ H => D.rt .non H
noncomputable def tIfS (c : TT) (t u : TS) : TS := fun D σ H => c σ H fun b H1 => if b = true then t D σ H1 else u D σ H1
theorem ps_if {c : Expr} {a b : List Stmt} {tc : TT} (hc : PT X c tc) (ha : PSs X a t) (hb : PSs X b u) : PS X (.If c a b pos) (tIfS tc t u) := by
  constructor
  intro pins s σ H D I h
  refine wpAny_If (thn (hc pins s σ H _ I h) fun d s1 ⟨H1, I1, q1⟩ => ?_)
  cases d with
  | true => exact ha pins s1 σ H1 D I1 q1
  | false => exact hb pins s1 σ H1 D I1 q1
noncomputable def tNever : TS := fun _ _ _ => False
end
noncomputable abbrev TG := V → St → Hp → (St → Hp → Prop) → Prop
noncomputable abbrev TGs := List V → St → Hp → (St → Hp → Prop) → Prop
structure PG (X : Cx) (target : Expr) (t : TG) : Prop where
  run : ∀ (pins : List (Addr × Obj)) (s : Shared) (σ : St) (H : Hp) (v : V) (u : Value) (Q : St → Hp → Prop), Inv X pins σ H s → RelV v u → t v σ H Q →
    wpAny (model X.prog X.w) X.A (assign target X.env u) (fun _ s' => ∃ σ' H', Inv X pins σ' H' s' ∧ Q σ' H') X.xe s
instance {X : Cx} {target : Expr} {t : TG} : CoeFun (PG X target t) (fun _ => ∀ (pins : List (Addr × Obj)) (s : Shared) (σ : St) (H : Hp) (v : V) (u : Value) (Q : St → Hp → Prop), Inv X pins σ H s → RelV v u → t v σ H Q →
    wpAny (model X.prog X.w) X.A (assign target X.env u) (fun _ s' => ∃ σ' H', Inv X pins σ' H' s' ∧ Q σ' H') X.xe s) := ⟨fun h => h.run⟩
structure PGs (X : Cx) (ts : List Expr) (t : TGs) : Prop where
  run : ∀ (pins : List (Addr × Obj)) (s : Shared) (σ : St) (H : Hp) (vs : List V) (us : List Value) (Q : St → Hp → Prop), Inv X pins σ H s → Vals vs us → t vs σ H Q →
    wpAny (model X.prog X.w) X.A (assignInOrder ((assignEach ts X.env).map (·.2)) us) (fun _ s' => ∃ σ' H', Inv X pins σ' H' s' ∧ Q σ' H') X.xe s
instance {X : Cx} {ts : List Expr} {t : TGs} : CoeFun (PGs X ts t) (fun _ => ∀ (pins : List (Addr × Obj)) (s : Shared) (σ : St) (H : Hp) (vs : List V) (us : List Value) (Q : St → Hp → Prop), Inv X pins σ H s → Vals vs us → t vs σ H Q →
    wpAny (model X.prog X.w) X.A (assignInOrder ((assignEach ts X.env).map (·.2)) us) (fun _ s' => ∃ σ' H', Inv X pins σ' H' s' ∧ Q σ' H') X.xe s) := ⟨fun h => h.run⟩
noncomputable abbrev TSet := V → V → V → Hp → (Hp → Prop) → Prop
noncomputable def PSet (X : Cx) (t : TSet) : Prop :=
  ∀ (pins : List (Addr × Obj)) (s : Shared) (σ : St) (H : Hp) (o i v : V) (ov iv u : Value) (Q : Hp → Prop), Inv X pins σ H s → RelV o ov → RelV i iv → RelV v u → t o i v H Q →
    wpAny (model X.prog X.w) X.A (setItem ov iv u) (fun _ s' => ∃ H', Inv X pins σ H' s' ∧ Q H') X.xe s
noncomputable abbrev TIp := V → V → Hp → VK → Prop
noncomputable def PIp (X : Cx) (op : Operator) (t : TIp) : Prop :=
  ∀ (pins : List (Addr × Obj)) (s : Shared) (σ : St) (H : Hp) (x y : V) (v u : Value) (Q : VK), Inv X pins σ H s → RelV x v → RelV y u → t x y H Q →
    wpAny (model X.prog X.w) X.A (inplaceOp op v u) (EP X pins σ Q) X.xe s
section
variable {X : Cx} {pos : Pos}
noncomputable abbrev gName (i : Nat) : TG := fun v σ H Q => Q (σ.set i (some v)) H
theorem pg_name {i : Nat} {x : Str} (hN : X.N.Nodup) (hi : X.N[i]? = some x) (hx : Loc X.env.scope x) (hf : X.fn x = true ∨ X.env.scope.names.lookup x = some .local := by first | exact .inl rfl | exact .inr rfl | assumption) : PG X (.Name x pos) (gName i) := by
  constructor
  intro pins s σ H v u Q I r h
  exact wpAny_assign_Name (store_ok I hN hi hx r (fun s' I' => ⟨_, H, I', h⟩) hf)
noncomputable def gNil : TGs := fun vs σ H Q => vs = [] ∧ Q σ H
noncomputable def gCons (t : TG) (u : TGs) : TGs := fun vs σ H Q => ∃ v r, vs = v :: r ∧ t v σ H fun σ' H' => u r σ' H' Q
theorem pgs_nil : PGs X [] gNil := by
  constructor
  intro pins s σ H vs us Q I r h
  obtain ⟨e, h⟩ := h
  subst e
  cases r
  exact assignInOrder_nil ⟨σ, H, I, h⟩
theorem pgs_cons {e : Expr} {es : List Expr} {t : TG} {u : TGs} (h1 : PG X e t) (h2 : PGs X es u)
    (hs : (assignEach (e :: es) X.env).map (·.2) = assign e X.env :: (assignEach es X.env).map (·.2) := by rfl) : PGs X (e :: es) (gCons t u) := by
  constructor
  intro pins s σ H vs us Q I r h
  obtain ⟨v, vr, e1, h⟩ := h
  subst e1
  cases r with
  | cons r rr =>
    rw [hs]
    refine assignInOrder_cons (thn (h1 pins s σ H _ _ _ I r h) fun _ s1 ⟨σ1, H1, I1, q1⟩ => ?_)
    exact h2 pins s1 σ1 H1 _ _ Q I1 rr q1
noncomputable def gTup (K : PySem.W.Frag) (n : Nat) (t : TGs) : TG := fun v σ H Q => ∃ a xs, v = .ref a ∧ SqT K H a xs ∧ xs.length = n ∧ t xs σ H Q
theorem pg_tup {es : List Expr} {k : Nat} {t : TGs} {n : Nat} (hc : X.calm = true) (h : PGs X es t)
    (hn : (assignEach es X.env).length = n := by rfl) (hst : (assignEach es X.env).findIdx? (·.1) = none := by rfl) : PG X (.Tuple es k pos) (gTup X.K n t) := by
  constructor
  intro pins s σ H v u Q I r hw
  obtain ⟨a, xs, e1, hq, hl, hw⟩ := hw
  subst e1
  cases r
  obtain ⟨its, rv, ht, hz⟩ := I.tuple hq
  refine assign_Tuple_tuple (I.ok.hd hc) ht (by simp [hn, ← hl, rv.length]) hst fun h' hx => ?_
  have I1 : Inv X pins σ H { s with heap := h' } := I.kept (t' := s.toks) fun b o e => hx b o (Nat.ne_of_lt (Heap.lt_size e)) e
  exact h pins _ σ H xs _ Q I1 (by simpa using rv) hw
noncomputable def gSub (to ti : TE) (t : TSet) : TG := fun v σ H Q => to σ H fun o H1 => ti σ H1 fun i H2 => t o i v H2 fun H3 => Q σ H3
theorem pg_sub {o i : Expr} {to ti : TE} {t : TSet} (ho : PE X o to) (hi : PE X i ti) (hs : PSet X t)
    (ha : ∀ v, assign (.Subscript o i pos) X.env v = (do
      let ov ← holding [v] (eval o X.env)
      let iv ← holding [v, ov] (eval i X.env)
      standAt pos
      holding [v, ov, iv] (setItem ov iv v)
      release [v, ov, iv] []) := by intro _; rfl) : PG X (.Subscript o i pos) (gSub to ti t) := by
  constructor
  intro pins s σ H v u Q I r h
  rw [ha]
  refine wpAny_bind (wpAny_holding (thn (ho pins s σ H _ I h) fun ov s1 ⟨x, H1, I1, r1, q1⟩ => ?_))
  refine wpAny_bind (wpAny_holding (thn (hi pins s1 σ H1 _ I1 q1) fun iv s2 ⟨y, H2, I2, r2, q2⟩ => ?_))
  refine wpAny_bind (wpAny_standAt (wpAny_bind (wpAny_holding (thn (hs pins s2 σ H2 x y v ov iv u _ I2 r1 r2 r q2) fun _ s3 ⟨H3, I3, q3⟩ => ?_))))
  exact wpAny_release ⟨σ, H3, I3, q3⟩
noncomputable def tAsg (te : TE) (g : TG) : TS := fun D σ H => te σ H fun x H1 => g x σ H1 D.nx
theorem ps_asg {tg e : Expr} {te : TE} {g : TG} (he : PE X e te) (hg : PG X tg g) (hs : swapsWithSole [tg] e pos.line X.env = pure false := by rfl) (hw : swappedStores [tg] e X.env = pure none := by rfl)
    (h1 : (assignEach [tg] X.env).map (·.2) = [assign tg X.env] := by rfl) : PS X (.Assign [tg] e pos) (tAsg te g) := by
  constructor
  intro pins s σ H D I h
  refine wpAny_Assign_stores (thn (he pins s σ H _ I h) fun v s1 ⟨x, H1, I1, r1, q1⟩ => ?_) hs hw
  rw [h1]
  exact thn (hg pins s1 σ H1 x v _ I1 r1 q1) fun _ s2 q => q
theorem ps_set {i : Nat} {x : Str} {e : Expr} {te : TE} {pos' : Pos} (hN : X.N.Nodup) (hi : X.N[i]? = some x) (hx : Loc X.env.scope x) (he : PE X e te) (hs : swapsWith e (some (.Name x pos')) pos.line X.env = pure false := by rfl) (hf : X.fn x = true ∨ X.env.scope.names.lookup x = some .local := by first | exact .inl rfl | exact .inr rfl | assumption) :
    PS X (.Assign [.Name x pos'] e pos) (tAsg te (gName i)) := by
  constructor
  intro pins s σ H D I h
  refine wpAny_Assign_Name (thn (he pins s σ H _ I h) fun v s1 ⟨y, H1, I1, r1, q1⟩ => ?_) hs
  exact store_ok I1 hN hi hx r1 (fun s2 I2 => ⟨_, H1, I2, q1⟩) hf
noncomputable def tPar (i j : Nat) (ta : TA) : TS := fun D σ H => ta σ H fun vs H1 => ∃ v w, vs = [v, w] ∧ D.nx ((σ.set i (some v)).set j (some w)) H1
noncomputable def tAug (i : Nat) (te : TE) (ti : TIp) : TS := fun D σ H => ∃ x, σ[i]? = some (some x) ∧ te σ H fun y H1 => ti x y H1 fun z H2 => D.nx (σ.set i (some z)) H2
noncomputable def tAugS (to ti te : TE) (tget : V → V → Hp → VK → Prop) (tip : TIp) (tset : TSet) : TS := fun D σ H => to σ H fun o H1 => ti σ H1 fun i H2 => tget o i H2 fun x H3 => te σ H3 fun y H4 => tip x y H4 fun z H5 => tset o i z H5 fun H6 => D.nx σ H6
noncomputable def PGet (X : Cx) (t : V → V → Hp → VK → Prop) : Prop :=
  ∀ (pins : List (Addr × Obj)) (s : Shared) (σ : St) (H : Hp) (o i : V) (ov iv : Value) (Q : VK), Inv X pins σ H s → RelV o ov → RelV i iv → t o i H Q →
    wpAny (model X.prog X.w) X.A (getItem ov iv) (EP X pins σ Q) X.xe s
noncomputable def ipI (f : Int → Int → Int) : TIp := fun x y H Q => ∃ i j, x = .int i ∧ y = .int j ∧ Q (.int (f i j)) H
end
section
variable {X : Cx} {pos : Pos}
noncomputable def tWhile (c : TT) (tb : TS) : TS := fun D σ H => ∃ W : Nat → St → Hp → Prop, (∃ m, W m σ H) ∧ ∀ m σ H, W m σ H →
  c σ H fun b H1 => if b = true then ∃ N : St → Hp → Prop, (∀ σ' H', N σ' H' → ∃ m', m' < m ∧ W m' σ' H') ∧ tb { D with nx := N, ct := N, bk := D.nx } σ H1 else D.nx σ H1
theorem ps_while {c : Expr} {body : List Stmt} {tc : TT} {tb : TS} (hp : PassesOwn (model X.prog X.w) X.A X.env X.xe) (hc : PT X c tc) (hb : PSs X body tb) : PS X (.While c body [] pos) (tWhile tc tb) := by
  constructor
  intro pins s σ H D I h
  obtain ⟨W, ⟨m0, w0⟩, turn⟩ := h
  refine wpAny_While (codeAny_whileLoop (fun n s' => ∃ σ' H', Inv X pins σ' H' s' ∧ W n σ' H') ?_ m0 ⟨σ, H, I, w0⟩)
  rintro n s1 ⟨σ1, H1, I1, w1⟩
  refine wpAny_passesOwn hp (thn (hc pins s1 σ1 H1 _ I1 (turn n σ1 H1 w1)) fun b s2 ⟨H2, I2, q2⟩ => ?_)
  cases b with
  | true =>
    obtain ⟨N, hN, q2⟩ := q2
    rw [if_pos rfl]
    refine wpAny_passesOwn hp (thn (hb pins s2 σ1 H2 _ I2 q2) fun f s3 q3 => ?_)
    cases f with
    | next =>
      obtain ⟨σ3, H3, I3, n3⟩ := q3
      obtain ⟨m', hm, w3⟩ := hN σ3 H3 n3
      exact ⟨m', hm, σ3, H3, I3, w3⟩
    | cont =>
      obtain ⟨σ3, H3, I3, n3⟩ := q3
      obtain ⟨m', hm, w3⟩ := hN σ3 H3 n3
      exact ⟨m', hm, σ3, H3, I3, w3⟩
    | brk => exact q3
    | ret v => exact q3
  | false =>
    rw [if_neg Bool.false_ne_true]
    exact wpAny_execs_nil ⟨σ1, H2, I2, q2⟩
end
structure It where
  go : Nat → Hp → Prop
  yld : Nat → Hp → V → Hp → Prop
  stop : Nat → Hp → Prop
noncomputable def FpOk (X : Cx) (pins : List (Addr × Obj)) (H : Hp) (b : Addr) : Prop :=
  H b = none ∧ b ≠ X.env.locals ∧ b ∉ X.fs ∧ (b ∈ X.ex ∨ X.s₀.heap.objs.size ≤ b) ∧ (∀ x c, X.env.cells.lookup x = some c → c ≠ b) ∧ ∀ p ∈ X.pn ++ pins, p.1 ≠ b
theorem Inv.fpOk {X : Cx} {pins : List (Addr × Obj)} {σ : St} {H H' : Hp} {s : Shared} {b : Addr} (I : Inv X pins σ H s) (hb : s.heap.objs.size ≤ b) (hn : H' b = none) : FpOk X pins H' b := by
  refine ⟨hn, Nat.ne_of_gt (Nat.lt_of_lt_of_le I.lt hb), I.nofs hb, .inr (Nat.le_trans I.sz hb), fun x c e z => ?_, fun p hp z => ?_⟩
  · obtain ⟨v, q⟩ := I.cell x c e
    exact absurd (Nat.lt_of_lt_of_le q.lt (by rw [z]; exact hb)) (Nat.lt_irrefl _)
  · exact absurd (Nat.lt_of_lt_of_le (Heap.lt_size (I.pin p hp).1) (by rw [z]; exact hb)) (Nat.lt_irrefl _)
structure Turn (P : Program) (w : World) (K : PySem.W.Frag) (hd : Option Value) (tg : Expr) (J : It) (fp : List Addr) (it : Addr) (tn : Nat → Heap → Prop) : Prop where
  mem : it ∈ fp
  obj : ∀ i h, tn i h → ∀ b ∈ fp, ∃ o, h.get? b = some o ∧ ∀ v, o.data ≠ .cell v
  keep : ∀ i h h', tn i h → (∀ b ∈ fp, ∀ o, h.get? b = some o → h'.get? b = some o) → tn i h'
  item : ∀ (X : Cx), X.prog = P → X.w = w → X.K = K → X.A.handled = hd → ∀ (i : Nat) (pins : List (Addr × Obj)) (s : Shared) (σ : St) (H : Hp) (E : Value → Shared → Prop), Inv X pins σ H s → (∀ b ∈ fp, FpOk X pins H b) → tn i s.heap → J.go i H →
    wpAny (model P w) X.A (pyNext (.ref it)) (fun r s1 => ∃ u, r = some u ∧
      wpAny (model P w) X.A (letOwnedTupleGo tg (.ref it) u) (fun _ s2 => ∃ x H', Inv X pins σ H' s2 ∧ RelV x u ∧ J.yld i H x H' ∧ tn (i + 1) s2.heap ∧ ∀ b ∈ fp, H' b = none) E s1) E s
  done : ∀ (X : Cx), X.prog = P → X.w = w → X.K = K → X.A.handled = hd → ∀ (i : Nat) (pins : List (Addr × Obj)) (s : Shared) (σ : St) (H : Hp) (E : Value → Shared → Prop), Inv X pins σ H s → (∀ b ∈ fp, FpOk X pins H b) → tn i s.heap → J.stop i H →
    wpAny (model P w) X.A (pyNext (.ref it)) (fun r s1 => r = none ∧ Inv X pins σ H s1) E s
  self : ∀ (A : Around) (i : Nat) (s : Shared) (Q : Value → Shared → Prop) (E : Value → Shared → Prop), tn i s.heap → Q (.ref it) s → wpAny (model P w) A (pyIter (.ref it)) Q E s
noncomputable abbrev TI := St → Hp → (It → Hp → Prop) → Prop
noncomputable def PIE (X : Cx) (pins : List (Addr × Obj)) (σ : St) (tg : Expr) (R : It → Hp → Prop) (itv : Value) (s2 : Shared) : Prop :=
  ∃ (it : Addr) (fp : List Addr) (tn : Nat → Heap → Prop) (J : It) (H' : Hp), itv = .ref it ∧ Inv X pins σ H' s2 ∧ Turn X.prog X.w X.K X.A.handled tg J fp it tn ∧ tn 0 s2.heap ∧ (∀ b ∈ fp, FpOk X pins H' b) ∧ R J H'
structure PI (X : Cx) (tg iter : Expr) (wi : TI) : Prop where
  run : ∀ (pins : List (Addr × Obj)) (s : Shared) (σ : St) (H : Hp) (R : It → Hp → Prop), Inv X pins σ H s → wi σ H R →
    wpAny (model X.prog X.w) X.A (eval iter X.env) (fun v s1 => wpAny (model X.prog X.w) X.A (pyIter v) (PIE X pins σ tg R) X.xe s1) X.xe s
instance {X : Cx} {tg iter : Expr} {wi : TI} : CoeFun (PI X tg iter wi) (fun _ => ∀ (pins : List (Addr × Obj)) (s : Shared) (σ : St) (H : Hp) (R : It → Hp → Prop), Inv X pins σ H s → wi σ H R →
    wpAny (model X.prog X.w) X.A (eval iter X.env) (fun v s1 => wpAny (model X.prog X.w) X.A (pyIter v) (PIE X pins σ tg R) X.xe s1) X.xe s) := ⟨fun h => h.run⟩
theorem go_of {M : Model} {A : Around} {E : Value → Shared → Prop} {s : Shared} {tg : Expr} {it : Addr} {u : Value} {o : Obj} {n : String} {vs : Array Value} {Q : Unit → Shared → Prop} (ho : s.heap.get? it = some o) (hc : o.cls = .type n) (hd : o.data = .fields vs)
    (hn : ["enumerate", "zip", "dict_itemiterator", "dict_reverseitemiterator", "odict_iterator", "itertools.zip_longest", "itertools.pairwise"].contains n = false) (hQ : Q () s) : wpAny M A (letOwnedTupleGo tg (.ref it) u) Q E s := by
  unfold letOwnedTupleGo
  cases tg <;> first
    | exact wpAny_pure hQ
    | (cases u <;> first
        | exact wpAny_pure hQ
        | (refine wpAny_bind (wpAny_load ho ?_)
           rw [hc, hd]
           show wpAny M A (if (["enumerate", "zip", "dict_itemiterator", "dict_reverseitemiterator", "odict_iterator", "itertools.zip_longest", "itertools.pairwise"].contains n && vs[0]? == some (rawInt _)) = true then _ else _) Q E s
           rw [if_neg (by intro h; rw [hn, Bool.false_and] at h; cases h)]
           exact wpAny_pure hQ))
noncomputable def Itl (K : PySem.W.Frag) (a : Addr) : It :=
  ⟨fun i H => ∃ xs x, SqL K H a xs ∧ xs[i]? = some x, fun i H x H' => H' = H ∧ ∀ xs, SqL K H a xs → xs[i]? = some x, fun i H => ∃ xs, SqL K H a xs ∧ xs.length ≤ i⟩
noncomputable def Itt (K : PySem.W.Frag) (a : Addr) : It :=
  ⟨fun i H => ∃ xs x, SqT K H a xs ∧ xs[i]? = some x, fun i H x H' => H' = H ∧ ∀ xs, SqT K H a xs → xs[i]? = some x, fun i H => ∃ xs, SqT K H a xs ∧ xs.length ≤ i⟩
noncomputable def Itr (lo : Int) (n : Nat) : It := ⟨fun i _ => i < n, fun i H x H' => H' = H ∧ x = .int (lo + i), fun i _ => n ≤ i⟩
theorem turn_list {P : Program} {w : World} {K : PySem.W.Frag} {hd : Option Value} {tg : Expr} (a it : Addr) : Turn P w K hd tg (Itl K a) [it] it (fun i h => h.IsListIter it a i) where
  mem := by simp
  obj := fun i h st b hb => by
    have e : b = it := by simpa using hb
    subst e
    obtain ⟨o, e, c, d⟩ := st
    exact ⟨o, e, fun v z => by rw [d] at z; cases z⟩
  keep := fun i h h' st k => st.at fun o e => k it (by simp) o e
  item := by
    intro X hP hw hK hA i pins s σ H E I hf st hg
    subst hP hw hK
    obtain ⟨xs, x, hq, hx⟩ := hg
    obtain ⟨its, rv, p, hz⟩ := I.list hq
    obtain ⟨u, hu, ru⟩ := rv.get hx
    obtain ⟨f0, f1, f2, f3, f4, f5⟩ := hf it (by simp)
    refine wpAny_pyNext_list_item st p.isList (x := u) (by simpa using hu) fun h' st' sb => ?_
    have I1 : Inv X pins σ H { s with heap := h' } := I.turned (t' := s.toks) (fun b o hb e => (sb.2 b hb).trans e) f0 f1 f3 f4 f5
    obtain ⟨o, e, c, d⟩ := id st'
    exact ⟨u, rfl, go_of (s := { s with heap := h' }) e c d (by decide) ⟨x, H, I1, ru, ⟨rfl, fun ys hy => by rw [I.list_inj hy hq]; exact hx⟩, st', fun b hb => (hf b hb).1⟩⟩
  done := by
    intro X hP hw hK hA i pins s σ H E I hf st hg
    subst hP hw hK
    obtain ⟨xs, hq, hx⟩ := hg
    obtain ⟨its, rv, p, hz⟩ := I.list hq
    obtain ⟨f0, f1, f2, f3, f4, f5⟩ := hf it (by simp)
    have hl := rv.length
    exact list_end I.hdAt (I.hdNe f0) st p.isList (by simp; omega) fun h' eb => ⟨rfl, I.turned (t' := s.toks) (fun b o hb e => eb b o hb e) f0 f1 f3 f4 f5⟩
  self := fun _ _ _ _ _ st h => wpAny_pyIter_listiter st h
theorem turn_tuple {P : Program} {w : World} {K : PySem.W.Frag} {hd : Option Value} {tg : Expr} (a it : Addr) : Turn P w K hd tg (Itt K a) [it] it (fun i h => h.IsTupleIter it a i) where
  mem := by simp
  obj := fun i h st b hb => by
    have e : b = it := by simpa using hb
    subst e
    obtain ⟨o, e, c, d⟩ := st
    exact ⟨o, e, fun v z => by rw [d] at z; cases z⟩
  keep := fun i h h' st k => st.at fun o e => k it (by simp) o e
  item := by
    intro X hP hw hK hA i pins s σ H E I hf st hg
    subst hP hw hK
    obtain ⟨xs, x, hq, hx⟩ := hg
    obtain ⟨its, rv, p, hz⟩ := I.tuple hq
    obtain ⟨u, hu, ru⟩ := rv.get hx
    obtain ⟨f0, f1, f2, f3, f4, f5⟩ := hf it (by simp)
    refine wpAny_pyNext_tuple_item st (show s.heap.IsTuple a its.toArray from p) (x := u) (by simpa using hu) fun h' st' sb => ?_
    have I1 : Inv X pins σ H { s with heap := h' } := I.turned (t' := s.toks) (fun b o hb e => (sb.2 b hb).trans e) f0 f1 f3 f4 f5
    obtain ⟨o, e, c, d⟩ := id st'
    exact ⟨u, rfl, go_of (s := { s with heap := h' }) e c d (by decide) ⟨x, H, I1, ru, ⟨rfl, fun ys hy => by rw [I.tuple_inj hy hq]; exact hx⟩, st', fun b hb => (hf b hb).1⟩⟩
  done := by
    intro X hP hw hK hA i pins s σ H E I hf st hg
    subst hP hw hK
    obtain ⟨xs, hq, hx⟩ := hg
    obtain ⟨its, rv, p, hz⟩ := I.tuple hq
    obtain ⟨f0, f1, f2, f3, f4, f5⟩ := hf it (by simp)
    have hl := rv.length
    exact tuple_end I.hdAt (I.hdNe f0) st (show s.heap.IsTuple a its.toArray from p) (by simp; omega) fun h' eb => ⟨rfl, I.turned (t' := s.toks) (fun b o hb e => eb b o hb e) f0 f1 f3 f4 f5⟩
  self := fun _ _ _ _ _ st h => wpAny_pyIter_tupleiter st h
theorem turn_range {P : Program} {w : World} {K : PySem.W.Frag} {hd : Option Value} {tg : Expr} (it : Addr) (lo : Int) (n : Nat) : Turn P w K hd tg (Itr lo n) [it] it (fun i h => IsRangeIter h it (lo + (i : Nat) * 1) ((n : Int) - (i : Nat)) 1) where
  mem := by simp
  obj := fun i h st b hb => by
    have e : b = it := by simpa using hb
    subst e
    exact ⟨_, st, fun v z => by
      have z' : Data.fields _ = Data.cell v := z
      cases z'⟩
  keep := fun i h h' st k => k it (by simp) _ st
  item := by
    intro X hP hw hK hA i pins s σ H E I hf st hg
    subst hP hw hK
    obtain ⟨f0, f1, f2, f3, f4, f5⟩ := hf it (by simp)
    refine range_next (lo := lo) hg st fun v h' tk hv st' kk => ?_
    obtain ⟨t, rfl⟩ := hv
    have I1 : Inv X pins σ H { s with heap := h', toks := tk } := I.turned (fun b o hb e => kk b o hb e) f0 f1 f3 f4 f5
    refine ⟨_, rfl, go_of (s := { s with heap := h', toks := tk }) (n := "range_iterator") st' rfl rfl (by decide) ⟨.int (lo + i), H, I1, ⟨t, ?_⟩, ⟨rfl, rfl⟩, st', fun b hb => (hf b hb).1⟩⟩
    rw [Int.mul_one]
  done := by
    intro X hP hw hK hA i pins s σ H E I hf st hg
    subst hP hw hK
    obtain ⟨f0, f1, f2, f3, f4, f5⟩ := hf it (by simp)
    exact range_end I.hdAt st (by have : n ≤ i := hg; omega) fun h' eb => ⟨rfl, I.turned (t' := s.toks) (fun b o _ e => eb b o e) f0 f1 f3 f4 f5⟩
  self := fun _ _ _ _ _ st h => wpAny_pyIter_rangeiter st h
end L2
namespace L2
open PySem PySem.Spec PyProof.Rows
section
variable {X : Cx} {tg : Expr}
noncomputable def iList (K : PySem.W.Frag) (tl : TE) : TI := fun σ H R => tl σ H fun x H1 => ∃ a, x = .ref a ∧ (∃ xs, SqL K H1 a xs) ∧ R (Itl K a) H1
noncomputable def iTup (K : PySem.W.Frag) (tl : TE) : TI := fun σ H R => tl σ H fun x H1 => ∃ a, x = .ref a ∧ (∃ xs, SqT K H1 a xs) ∧ R (Itt K a) H1
theorem pi_list {l : Expr} {tl : TE} (hl : PE X l tl) : PI X tg l (iList X.K tl) := by
  constructor
  intro pins s σ H R I h
  refine thn (hl pins s σ H _ I h) fun v s1 ⟨x, H1, I1, r1, q1⟩ => ?_
  obtain ⟨a, e, ⟨xs, hq⟩, q⟩ := q1
  subst e
  cases r1
  obtain ⟨its, rv, p, hz⟩ := I1.list hq
  refine wpAny_pyIter_list p.isList ?_
  refine ⟨s1.heap.objs.size, [s1.heap.objs.size], _, _, H1, rfl, I1.kept (t' := s1.toks) fun b o e => Heap.get?_push_of_some _ e, turn_list a _, ⟨_, Heap.get?_push_size _ rfl, rfl, rfl⟩, fun b hb => ?_, q⟩
  have e : b = s1.heap.objs.size := by simpa using hb
  subst e
  exact I1.fpOk (Nat.le_refl _) (I1.hok.fresh (Nat.le_refl _))
theorem pi_tup {l : Expr} {tl : TE} (hl : PE X l tl) : PI X tg l (iTup X.K tl) := by
  constructor
  intro pins s σ H R I h
  refine thn (hl pins s σ H _ I h) fun v s1 ⟨x, H1, I1, r1, q1⟩ => ?_
  obtain ⟨a, e, ⟨xs, hq⟩, q⟩ := q1
  subst e
  cases r1
  obtain ⟨its, rv, p, hz⟩ := I1.tuple hq
  refine wpAny_pyIter_tuple (show s1.heap.IsTuple a its.toArray from p) ?_
  refine ⟨s1.heap.objs.size, [s1.heap.objs.size], _, _, H1, rfl, I1.kept (t' := s1.toks) fun b o e => Heap.get?_push_of_some _ e, turn_tuple a _, ⟨_, Heap.get?_push_size _ rfl, rfl, rfl⟩, fun b hb => ?_, q⟩
  have e : b = s1.heap.objs.size := by simpa using hb
  subst e
  exact I1.fpOk (Nat.le_refl _) (I1.hok.fresh (Nat.le_refl _))
theorem range_it {pins : List (Addr × Obj)} {σ : St} {H : Hp} {s : Shared} {R : It → Hp → Prop} {E : Value → Shared → Prop} {lo hi : Int} {t u v : Tok} {tk : Nat} (I : Inv X pins σ H s) (h1 : -(2 ^ 62) ≤ lo) (h2 : lo < 2 ^ 62) (h3 : -(2 ^ 62) ≤ hi) (h4 : hi < 2 ^ 62)
    (q : R (Itr lo (hi - lo).toNat) H) : wpAny (model X.prog X.w) X.A (pyIter (.ref s.heap.objs.size)) (PIE X pins σ tg R) E { s with heap := s.heap.push { cls := .type "range", data := .fields #[.int lo t, .int hi u, .int 1 v] }, toks := tk } := by
  refine wpAny_pyIter_range (IsRange.new ..) (small_one h1 h2 h3 h4) ?_
  have I1 : Inv X pins σ H { s with heap := s.heap.push { cls := .type "range", data := .fields #[.int lo t, .int hi u, .int 1 v] }, toks := tk } := I.kept fun b o e => Heap.get?_push_of_some _ e
  refine ⟨(s.heap.push { cls := .type "range", data := .fields #[.int lo t, .int hi u, .int 1 v] }).objs.size, [(s.heap.push { cls := .type "range", data := .fields #[.int lo t, .int hi u, .int 1 v] }).objs.size], _, _, H, rfl,
    I1.kept (t' := tk) fun b o e => Heap.get?_push_of_some _ e, turn_range _ lo (hi - lo).toNat, ?_, fun b hb => ?_, q⟩
  · have e1 : lo + ((0 : Nat) : Int) * 1 = lo := by simp
    have e2 : (((hi - lo).toNat : Nat) : Int) - ((0 : Nat) : Int) = Builtin.Range.rangeSize lo hi 1 := by rw [rangeSize_one]; split <;> omega
    show IsRangeIter _ _ (lo + ((0 : Nat) : Int) * 1) ((((hi - lo).toNat : Nat) : Int) - ((0 : Nat) : Int)) 1
    rw [e1, e2]
    exact Heap.get?_push_size _ rfl
  · have e : b = (s.heap.push { cls := .type "range", data := .fields #[.int lo t, .int hi u, .int 1 v] }).objs.size := by simpa using hb
    subst e
    exact I1.fpOk (Nat.le_refl _) (I1.hok.fresh (Nat.le_refl _))
noncomputable def iRng1 (ta : TA) : TI := fun σ H R => ta σ H fun vs H1 => ∃ j : Int, vs = [.int j] ∧ -(2 ^ 62) ≤ j ∧ j < 2 ^ 62 ∧ R (Itr 0 j.toNat) H1
noncomputable def iRng2 (ta : TA) : TI := fun σ H R => ta σ H fun vs H1 => ∃ i j : Int, vs = [.int i, .int j] ∧ (-(2 ^ 62) ≤ i ∧ i < 2 ^ 62 ∧ -(2 ^ 62) ≤ j ∧ j < 2 ^ 62) ∧ R (Itr i (j - i).toNat) H1
theorem pi_range1 {a : Expr} {ta : TA} {p pos : Pos} (hg : Gl X "range") (hm : X.mg "range" = none) (ha : PA X [a] ta) (hs : starEach [a] X.env = [(false, eval a X.env)] := by rfl) : PI X tg (.Call (.Name "range" p) [a] [] pos) (iRng1 ta) := by
  constructor
  intro pins s σ H R I h
  refine Call_ (ld_blt I hg hm boot_range (PyProof.Rows.callWith_type1 (thn (ha pos pins s σ H _ I h) fun us s1 ⟨vs, H1, I1, r1, q1⟩ => ?_) hs rfl))
  obtain ⟨j, e, q1, q2, q⟩ := q1
  subst e
  cases r1 with
  | cons r rr =>
    cases rr
    obtain ⟨t, rfl⟩ := r
    exact call_range_1 (range_it I1 (by omega) (by omega) q1 q2 (by simpa using q))
theorem pi_range2 {a b : Expr} {ta : TA} {p pos : Pos} (hg : Gl X "range") (hm : X.mg "range" = none) (ha : PA X [a, b] ta) (hs : starEach [a, b] X.env = [(false, eval a X.env), (false, eval b X.env)] := by rfl) (hs2 : starEach [b] X.env = [(false, eval b X.env)] := by rfl) :
    PI X tg (.Call (.Name "range" p) [a, b] [] pos) (iRng2 ta) := by
  constructor
  intro pins s σ H R I h
  refine Call_ (ld_blt I hg hm boot_range (PyProof.Rows.callWith_type1 (thn (ha pos pins s σ H _ I h) fun us s1 ⟨vs, H1, I1, r1, q1⟩ => ?_) (by rw [hs, hs2]) (by rw [hs2]; rfl)))
  obtain ⟨i, j, e, ⟨q1, q2, q3, q4⟩, q⟩ := q1
  subst e
  cases r1 with
  | cons r rr =>
    cases rr with
    | cons r' rr =>
      cases rr
      obtain ⟨t, rfl⟩ := r
      obtain ⟨t', rfl⟩ := r'
      exact call_range_2 (range_it I1 q1 q2 q3 q4 q)
noncomputable def tFor (wi : TI) (g : TG) (tb : TS) : TS := fun D σ H => wi σ H fun J H1 => ∃ W : Nat → Nat → St → Hp → Prop, (∃ m, W 0 m σ H1) ∧ ∀ i m σ H, W i m σ H →
  (J.stop i H ∧ D.nx σ H) ∨ (J.go i H ∧ ∃ N : St → Hp → Prop, (∀ σ' H', N σ' H' → ∃ m', m' < m ∧ W (i + 1) m' σ' H') ∧ ∀ x H', J.yld i H x H' → g x σ H' fun σ2 H2 => tb { D with nx := N, ct := N, bk := D.nx } σ2 H2)
noncomputable def pinsAt (fp : List Addr) (h : Heap) : List (Addr × Obj) := fp.filterMap fun b => (h.get? b).map fun o => (b, o)
theorem mem_pinsAt {fp : List Addr} {h : Heap} {b : Addr} {o : Obj} (hb : b ∈ fp) (e : h.get? b = some o) : (b, o) ∈ pinsAt fp h := List.mem_filterMap.mpr ⟨b, hb, by rw [e]; rfl⟩
theorem of_pinsAt {fp : List Addr} {h : Heap} {p : Addr × Obj} (hp : p ∈ pinsAt fp h) : p.1 ∈ fp ∧ h.get? p.1 = some p.2 := by
  obtain ⟨b, hb, e⟩ := List.mem_filterMap.mp hp
  cases q : h.get? b with
  | none => rw [q] at e; cases e
  | some o =>
    rw [q] at e
    have e' : (b, o) = p := Option.some.inj e
    subst e'
    exact ⟨hb, q⟩
theorem Inv.pinned {pins : List (Addr × Obj)} {σ : St} {H : Hp} {s : Shared} {fp : List Addr} (I : Inv X pins σ H s) (hf : ∀ b ∈ fp, FpOk X pins H b) (ho : ∀ b ∈ fp, ∃ o, s.heap.get? b = some o ∧ ∀ v, o.data ≠ .cell v) : Inv X (pins ++ pinsAt fp s.heap) σ H s :=
  I.pins_of fun p hp => (List.mem_append.mp hp).elim (fun z => I.pin p (List.mem_append_right _ z)) fun z => by
    obtain ⟨hb, e⟩ := of_pinsAt z
    obtain ⟨f0, f1, f2, _⟩ := hf p.1 hb
    obtain ⟨o, e', d⟩ := ho p.1 hb
    rw [e] at e'; cases e'
    exact ⟨e, f0, f1, f2, d⟩
theorem Inv.unpinned {pins pl : List (Addr × Obj)} {σ : St} {H : Hp} {s : Shared} (I : Inv X (pins ++ pl) σ H s) : Inv X pins σ H s := I.pins_of fun p hp => I.pin p (List.mem_append_right _ (List.mem_append_left _ hp))
theorem ps_for {iter : Expr} {body : List Stmt} {wi : TI} {g : TG} {tb : TS} {pos : Pos} (hp : PassesOwn (model X.prog X.w) X.A X.env X.xe) (hi : PI X tg iter wi) (hg : PG X tg g) (hb : PSs X body tb)
    (hs : ∀ x, foldedSetIterable iter X.env x = pure x := by intro _; rfl) : PS X (.For tg iter body [] pos) (tFor wi g tb) := by
  constructor
  intro pins s σ H D I h
  refine wpAny_For (thn (hi pins s σ H _ I h) fun v s1 h1 => thn h1 fun itv s2 h2 => ?_) hs
  obtain ⟨it, fp, tn, J, H2, e, I2, T, st2, f2, W, ⟨m0, w0⟩, turn⟩ := h2
  subst e
  have stat : ∀ {H' : Hp}, (∀ b ∈ fp, H' b = none) → ∀ b ∈ fp, FpOk X pins H' b := fun hn b hb => ⟨hn b hb, (f2 b hb).2⟩
  refine codeAny_forLoop_any (fun n s' => ∃ i σ' H', Inv X pins σ' H' s' ∧ tn i s'.heap ∧ (∀ b ∈ fp, H' b = none) ∧ W i n σ' H') ?_ m0 ⟨0, σ, H2, I2, st2, fun b hb => (f2 b hb).1, w0⟩
  rintro n s3 ⟨i, σ3, H3, I3, st3, fr3, w3⟩
  rcases turn i n σ3 H3 w3 with ⟨stop, qn⟩ | ⟨go, N, hN, step⟩
  · refine wpAny_passesOwn hp (thn (T.done X rfl rfl rfl rfl i pins s3 σ3 H3 X.xe I3 (stat fr3) st3 stop) fun r s4 ⟨hr, I4⟩ => ?_)
    subst hr
    exact wpAny_execs_nil ⟨σ3, H3, I4, qn⟩
  · refine wpAny_passesOwn hp (thn (T.item X rfl rfl rfl rfl i pins s3 σ3 H3 X.xe I3 (stat fr3) st3 go) fun r s4 ⟨u, hr, h4⟩ => ?_)
    subst hr
    refine wpAny_passesOwn hp (thn h4 fun _ s5 ⟨x, H5, I5, r5, y5, st5, fr5⟩ => ?_)
    have I5' := I5.pinned (stat fr5) (T.obj _ _ st5)
    refine wpAny_passesOwn hp (thn (hg _ s5 σ3 H5 x u _ I5' r5 (step x H5 y5)) fun _ s6 ⟨σ6, H6, I6, q6⟩ => ?_)
    refine wpAny_passesOwn hp (thn (hb _ s6 σ6 H6 _ I6 q6) fun f s7 q7 => ?_)
    have again : ∀ {σ7 : St} {H7 : Hp}, Inv X (pins ++ pinsAt fp s5.heap) σ7 H7 s7 → N σ7 H7 → ∃ m, m < n ∧ ∃ i σ' H', Inv X pins σ' H' s7 ∧ tn i s7.heap ∧ (∀ b ∈ fp, H' b = none) ∧ W i m σ' H' := fun {σ7 H7} I7 n7 => by
      obtain ⟨m', hm, w7⟩ := hN σ7 H7 n7
      refine ⟨m', hm, i + 1, σ7, H7, I7.unpinned, T.keep _ _ _ st5 fun b hb o e => (I7.pin (b, o) (List.mem_append_right _ (List.mem_append_right _ (mem_pinsAt hb e)))).1, fun b hb => ?_, w7⟩
      obtain ⟨o, e, d⟩ := T.obj _ _ st5 b hb
      exact (I7.pin (b, o) (List.mem_append_right _ (List.mem_append_right _ (mem_pinsAt hb e)))).2.1
    cases f with
    | next => obtain ⟨σ7, H7, I7, n7⟩ := q7; exact again I7 n7
    | cont => obtain ⟨σ7, H7, I7, n7⟩ := q7; exact again I7 n7
    | brk => obtain ⟨σ7, H7, I7, q7⟩ := q7; exact ⟨σ7, H7, I7.unpinned, q7⟩
    | ret v => obtain ⟨x7, σ7, H7, I7, r7, q7⟩ := q7; exact ⟨x7, σ7, H7, I7.unpinned, r7, q7⟩
end
theorem for_list {K : PySem.W.Frag} {a : Addr} {xs : List V} {g : TG} {tb : TS} {D : Ends} {σ : St} {H : Hp} (Pv : Nat → St → Hp → Prop) (h0 : Pv 0 σ H) (hl : ∀ i σ H, i ≤ xs.length → Pv i σ H → SqL K H a xs)
    (hs : ∀ i x σ H, xs[i]? = some x → Pv i σ H → g x σ H fun σ2 H2 => tb { D with nx := Pv (i + 1), ct := Pv (i + 1), bk := D.nx } σ2 H2) (hd : ∀ σ H, Pv xs.length σ H → D.nx σ H) :
    ∃ W : Nat → Nat → St → Hp → Prop, (∃ m, W 0 m σ H) ∧ ∀ i m σ H, W i m σ H →
      ((Itl K a).stop i H ∧ D.nx σ H) ∨ ((Itl K a).go i H ∧ ∃ N : St → Hp → Prop, (∀ σ' H', N σ' H' → ∃ m', m' < m ∧ W (i + 1) m' σ' H') ∧ ∀ x H', (Itl K a).yld i H x H' → g x σ H' fun σ2 H2 => tb { D with nx := N, ct := N, bk := D.nx } σ2 H2) := by
  refine ⟨fun i m σ H => m = xs.length - i ∧ i ≤ xs.length ∧ Pv i σ H, ⟨xs.length, by simp, Nat.zero_le _, h0⟩, ?_⟩
  rintro i m σ H ⟨rfl, hi, p⟩
  have q := hl i σ H hi p
  by_cases hlt : i < xs.length
  · refine .inr ⟨⟨xs, xs[i], q, by simp [hlt]⟩, Pv (i + 1), fun σ' H' p' => ⟨xs.length - (i + 1), by omega, rfl, hlt, p'⟩, fun x H' y => ?_⟩
    obtain ⟨e, y⟩ := y
    subst e
    exact hs i x σ _ (y xs q) p
  · have e : i = xs.length := by omega
    subst e
    exact .inl ⟨⟨xs, q, Nat.le_refl _⟩, hd σ H p⟩
theorem for_range {lo : Int} {n : Nat} {g : TG} {tb : TS} {D : Ends} {σ : St} {H : Hp} (Pv : Nat → St → Hp → Prop) (h0 : Pv 0 σ H)
    (hs : ∀ i σ H, i < n → Pv i σ H → g (.int (lo + i)) σ H fun σ2 H2 => tb { D with nx := Pv (i + 1), ct := Pv (i + 1), bk := D.nx } σ2 H2) (hd : ∀ σ H, Pv n σ H → D.nx σ H) :
    ∃ W : Nat → Nat → St → Hp → Prop, (∃ m, W 0 m σ H) ∧ ∀ i m σ H, W i m σ H →
      ((Itr lo n).stop i H ∧ D.nx σ H) ∨ ((Itr lo n).go i H ∧ ∃ N : St → Hp → Prop, (∀ σ' H', N σ' H' → ∃ m', m' < m ∧ W (i + 1) m' σ' H') ∧ ∀ x H', (Itr lo n).yld i H x H' → g x σ H' fun σ2 H2 => tb { D with nx := N, ct := N, bk := D.nx } σ2 H2) := by
  refine ⟨fun i m σ H => m = n - i ∧ i ≤ n ∧ Pv i σ H, ⟨n, by simp, Nat.zero_le _, h0⟩, ?_⟩
  rintro i m σ H ⟨rfl, hi, p⟩
  by_cases hlt : i < n
  · refine .inr ⟨hlt, Pv (i + 1), fun σ' H' p' => ⟨n - (i + 1), by omega, rfl, hlt, p'⟩, fun x H' y => ?_⟩
    obtain ⟨e, y⟩ := y
    subst e y
    exact hs i σ _ hlt p
  · have e : i = n := by omega
    subst e
    exact .inl ⟨Nat.le_refl _, hd σ H p⟩
end L2
namespace L2
open PySem PySem.Spec PyProof.Rows
noncomputable abbrev R2 := V → V → Hp → VK → Prop
noncomputable def OpR (X : Cx) (f : Value → Value → Sem Value) (r : R2) : Prop :=
  ∀ (pins : List (Addr × Obj)) (s : Shared) (σ : St) (H : Hp) (x y : V) (v u : Value) (Q : VK), Inv X pins σ H s → RelV x v → RelV y u → r x y H Q →
    wpAny (model X.prog X.w) X.A (f v u) (EP X pins σ Q) X.xe s
noncomputable def UnR (X : Cx) (f : Value → Sem Value) (r : V → Hp → VK → Prop) : Prop :=
  ∀ (pins : List (Addr × Obj)) (s : Shared) (σ : St) (H : Hp) (x : V) (v : Value) (Q : VK), Inv X pins σ H s → RelV x v → r x H Q →
    wpAny (model X.prog X.w) X.A (f v) (EP X pins σ Q) X.xe s
noncomputable def CallR (X : Cx) (f : Value) (r : List V → Hp → VK → Prop) : Prop :=
  ∀ (pins : List (Addr × Obj)) (s : Shared) (σ : St) (H : Hp) (xs : List V) (us : List Value) (Q : VK), Inv X pins σ H s → Vals xs us → r xs H Q →
    wpAny (model X.prog X.w) X.A (call f us) (EP X pins σ Q) X.xe s
noncomputable def TruR (X : Cx) (r : V → Hp → (Bool → Hp → Prop) → Prop) : Prop :=
  ∀ (pins : List (Addr × Obj)) (s : Shared) (σ : St) (H : Hp) (x : V) (v : Value) (Q : Bool → Hp → Prop), Inv X pins σ H s → RelV x v → r x H Q →
    wpAny (model X.prog X.w) X.A (truthy v) (TP X pins σ Q) X.xe s
noncomputable def tOp (r : R2) (ta tb : TE) : TE := fun σ H Q => ta σ H fun x H1 => tb σ H1 fun y H2 => r x y H2 Q
noncomputable def tUn (r : V → Hp → VK → Prop) (ta : TE) : TE := fun σ H Q => ta σ H fun x H1 => r x H1 Q
noncomputable def rI (C : Int → Int → Prop) (g : Int → Int → V) : R2 := fun x y H Q => ∃ i j, x = .int i ∧ y = .int j ∧ C i j ∧ Q (g i j) H
noncomputable def rI0 (g : Int → Int → V) : R2 := fun x y H Q => ∃ i j, x = .int i ∧ y = .int j ∧ Q (g i j) H
noncomputable def rU (g : Int → V) : V → Hp → VK → Prop := fun x H Q => ∃ i, x = .int i ∧ Q (g i) H
section
variable {X : Cx} {a b c : Expr} {ta tb tc : TE} {pos : Pos}
theorem binT (ha : PE X a ta) (hb : PE X b tb) {pins : List (Addr × Obj)} {s : Shared} {σ : St} {H : Hp} {R : V → V → Hp → Prop} (I : Inv X pins σ H s)
    (h : ta σ H fun x H1 => tb σ H1 fun y H2 => R x y H2) {Q : Value → Shared → Prop} {f : Value → Value → Sem Value}
    (hf : ∀ v u s2 x y H2, Inv X pins σ H2 s2 → RelV x v → RelV y u → R x y H2 → wpAny (model X.prog X.w) X.A (f v u) Q X.xe s2) :
    wpAny (model X.prog X.w) X.A (eval a X.env) (fun v s₁ => wpAny (model X.prog X.w) X.A (eval b X.env) (fun u s₂ => wpAny (model X.prog X.w) X.A (f v u) Q X.xe s₂) X.xe s₁) X.xe s := by
  refine thn (ha pins s σ H _ I h) fun v s1 ⟨x, H1, I1, r1, q1⟩ => ?_
  refine thn (hb pins s1 σ H1 _ I1 q1) fun u s2 ⟨y, H2, I2, r2, q2⟩ => ?_
  exact hf v u s2 x y H2 I2 r1 r2 q2
theorem pe_op {op : Operator} {r : R2} (ho : OpR X (binaryOp op) r) (ha : PE X a ta) (hb : PE X b tb) : PE X (.BinOp a op b pos) (tOp r ta tb) := by
  constructor
  intro pins s σ H Q I h
  exact wpAny_BinOp (binT ha hb I h fun v u s2 x y H2 I2 rx ry q => ho pins s2 σ H2 x y v u Q I2 rx ry q)
theorem pe_un {op : UnaryOp} {r : V → Hp → VK → Prop} (ho : UnR X (unaryOp op) r) (ha : PE X a ta) : PE X (.UnaryOp op a pos) (tUn r ta) := by
  constructor
  intro pins s σ H Q I h
  exact UnaryOp_ (thn (ha pins s σ H _ I h) fun v s1 ⟨x, H1, I1, r1, q1⟩ => ho pins s1 σ H1 x v Q I1 r1 q1)
theorem opI {f : Value → Value → Sem Value} {C : Int → Int → Prop} {g : Int → Int → Int}
    (rule : ∀ (i j : Int) (t u : Tok) (s : Shared) (Q : Value → Shared → Prop) (E : Value → Shared → Prop), C i j → Q (.int (g i j) s.toks) { s with toks := s.toks + 1 } → wpAny (model X.prog X.w) X.A (f (.int i t) (.int j u)) Q E s) :
    OpR X f (rI C fun i j => .int (g i j)) := by
  intro pins s σ H x y v u Q I rx ry h
  obtain ⟨i, j, rfl, rfl, hc, q⟩ := h
  obtain ⟨t, rfl⟩ := rx
  obtain ⟨t', rfl⟩ := ry
  exact rule i j t t' s _ _ hc ⟨.int (g i j), H, I.tok _, ⟨_, rfl⟩, q⟩
theorem opI0 {f : Value → Value → Sem Value} {g : Int → Int → Int}
    (rule : ∀ (i j : Int) (t u : Tok) (s : Shared) (Q : Value → Shared → Prop) (E : Value → Shared → Prop), Q (.int (g i j) s.toks) { s with toks := s.toks + 1 } → wpAny (model X.prog X.w) X.A (f (.int i t) (.int j u)) Q E s) :
    OpR X f (rI0 fun i j => .int (g i j)) := by
  intro pins s σ H x y v u Q I rx ry h
  obtain ⟨i, j, rfl, rfl, q⟩ := h
  obtain ⟨t, rfl⟩ := rx
  obtain ⟨t', rfl⟩ := ry
  exact rule i j t t' s _ _ ⟨.int (g i j), H, I.tok _, ⟨_, rfl⟩, q⟩
theorem opB0 {f : Value → Value → Sem Value} {g : Int → Int → Bool}
    (rule : ∀ (i j : Int) (t u : Tok) (s : Shared) (Q : Value → Shared → Prop) (E : Value → Shared → Prop), Q (.bool (g i j)) s → wpAny (model X.prog X.w) X.A (f (.int i t) (.int j u)) Q E s) :
    OpR X f (rI0 fun i j => .bl (g i j)) := by
  intro pins s σ H x y v u Q I rx ry h
  obtain ⟨i, j, rfl, rfl, q⟩ := h
  obtain ⟨t, rfl⟩ := rx
  obtain ⟨t', rfl⟩ := ry
  exact rule i j t t' s _ _ ⟨.bl (g i j), H, I, rfl, q⟩
noncomputable def CDiv (i j : Int) : Prop := 0 < j ∧ j < 1073741824
noncomputable def CDivN (i j : Int) : Prop := j ≠ 0 ∧ j.natAbs < 1073741824
noncomputable def CPow (i j : Int) : Prop := 0 ≤ j ∧ j ≤ 1000000 ∧ i.natAbs < 2 ^ 64
noncomputable def CMul (i j : Int) : Prop := (-(2 ^ 64) < i ∧ i < 2 ^ 64) ∨ (-(2 ^ 64) < j ∧ j < 2 ^ 64)
theorem CMul.ok {i j : Int} (h : CMul i j) : IntMulOk i j := by
  rcases h with ⟨h1, h2⟩ | ⟨h1, h2⟩
  · exact .of_left (intBits_le_64 h1 h2)
  · exact .of_right (intBits_le_64 h1 h2)
theorem op_add : OpR X (binaryOp .Add) (rI0 fun i j => .int (i + j)) := opI0 fun _ _ _ _ _ _ _ q => add_int q
theorem op_sub : OpR X (binaryOp .Sub) (rI0 fun i j => .int (i - j)) := opI0 fun _ _ _ _ _ _ _ q => sub_int q
theorem op_mod : OpR X (binaryOp .Mod) (rI (fun _ j => 0 < j) fun i j => .int (i % j)) := opI fun i j _ _ _ _ _ hc q => by
  have h1 : (0 : Int) < j := hc
  exact mod_int' (by omega) (by rw [Int.fmod_eq_emod_of_nonneg i (by omega)]; exact q)
theorem op_pow : OpR X (binaryOp .Pow) (rI CPow fun i j => .int (i ^ j.toNat)) := opI fun _ _ _ _ _ _ _ hc q => pow_int_small hc.1 hc.2.1 hc.2.2 q
theorem op_shl : OpR X (binaryOp .LShift) (rI CPow fun i j => .int (i * 2 ^ j.toNat)) := opI fun _ _ _ _ _ _ _ hc q => lshift_int_small hc.1 hc.2.1 hc.2.2 q
theorem unI {f : Value → Sem Value} {g : Int → Int}
    (rule : ∀ (i : Int) (t : Tok) (s : Shared) (Q : Value → Shared → Prop) (E : Value → Shared → Prop), Q (.int (g i) s.toks) { s with toks := s.toks + 1 } → wpAny (model X.prog X.w) X.A (f (.int i t)) Q E s) :
    UnR X f (rU fun i => .int (g i)) := by
  intro pins s σ H x v Q I rx h
  obtain ⟨i, rfl, q⟩ := h
  obtain ⟨t, rfl⟩ := rx
  exact rule i t s _ _ ⟨.int (g i), H, I.tok _, ⟨_, rfl⟩, q⟩
theorem un_neg : UnR X (unaryOp .USub) (rU fun i => .int (-i)) := unI fun _ _ _ _ _ q => neg_int q
end
noncomputable def scal : V → V → Bool
  | .non, .non => true | .non, .int _ => true | .int _, .non => true | .non, .bl _ => true | .bl _, .non => true | .non, .str _ => true | .str _, .non => true
  | .int _, .int _ => true | .bl _, .bl _ => true | .str _, .str _ => true | .byt _, .byt _ => true
  | .int _, .str _ => true | .str _, .int _ => true | .bl _, .str _ => true | .str _, .bl _ => true
  | _, _ => false
noncomputable def rEq : R2 := fun x y H Q => scal x y = true ∧ Q (.bl (decide (x = y))) H
noncomputable def rNe : R2 := fun x y H Q => scal x y = true ∧ Q (.bl (!decide (x = y))) H
theorem dec_int {i j : Int} : decide (V.int i = V.int j) = (i == j) := by
  rw [Bool.eq_iff_iff]
  simp
theorem dec_bl {i j : Bool} : decide (V.bl i = V.bl j) = (i == j) := by
  rw [Bool.eq_iff_iff]
  simp
theorem dec_str {i j : Str} : decide (V.str i = V.str j) = (i == j) := by
  rw [Bool.eq_iff_iff]
  simp
theorem dec_byt {i j : Array UInt8} : decide (V.byt i = V.byt j) = (i.toList == j.toList) := by
  rw [Bool.eq_iff_iff]
  cases i
  cases j
  simp
section
variable {X : Cx} {a b c : Expr} {ta tb tc : TE} {pos : Pos}
theorem fin_bl {pins : List (Addr × Obj)} {σ : St} {H : Hp} {s : Shared} {Q : VK} {k k' : Bool} (I : Inv X pins σ H s) (q : Q (.bl k) H) (e : k = k') : EP X pins σ Q (.bool k') s := by
  subst e
  exact ⟨.bl k, H, I, rfl, q⟩
theorem op_eq : OpR X (compareOp .Eq) rEq := by
  intro pins s σ H x y v u Q I rx ry h
  obtain ⟨hs, q⟩ := h
  cases x with
  | non =>
    cases rx
    cases y with
    | non => cases ry; exact PySem.EqNone.eq_none_none (fin_bl I q (by simp))
    | bl j => cases ry; exact PySem.EqNone.eq_none_bool (fin_bl I q (by simp))
    | int j => obtain ⟨t', rfl⟩ := ry; exact PySem.EqNone.eq_none_int (fin_bl I q (by simp))
    | str j => obtain ⟨t', rfl⟩ := ry; exact PySem.EqNone.eq_none_str (fin_bl I q (by simp))
    | _ => exact absurd (show false = true from hs) Bool.false_ne_true
  | bl i =>
    cases rx
    cases y with
    | non => cases ry; exact PySem.EqNone.eq_bool_none (fin_bl I q (by simp))
    | bl j => cases ry; exact eq_bool (fin_bl I q dec_bl)
    | str j => obtain ⟨t', rfl⟩ := ry; exact PySem.EqMixed.eq_bool_str (fin_bl I q (by simp))
    | _ => exact absurd (show false = true from hs) Bool.false_ne_true
  | int i =>
    obtain ⟨t, rfl⟩ := rx
    cases y with
    | non => cases ry; exact PySem.EqNone.eq_int_none (fin_bl I q (by simp))
    | int j => obtain ⟨t', rfl⟩ := ry; exact eq_int (fin_bl I q dec_int)
    | str j => obtain ⟨t', rfl⟩ := ry; exact PySem.EqMixed.eq_int_str (fin_bl I q (by simp))
    | _ => exact absurd (show false = true from hs) Bool.false_ne_true
  | str i =>
    obtain ⟨t, rfl⟩ := rx
    cases y with
    | non => cases ry; exact PySem.EqNone.eq_str_none (fin_bl I q (by simp))
    | bl j => cases ry; exact PySem.EqMixed.eq_str_bool (fin_bl I q (by simp))
    | int j => obtain ⟨t', rfl⟩ := ry; exact PySem.EqMixed.eq_str_int (fin_bl I q (by simp))
    | str j => obtain ⟨t', rfl⟩ := ry; exact eq_str (fin_bl I q dec_str)
    | _ => exact absurd (show false = true from hs) Bool.false_ne_true
  | byt i =>
    obtain ⟨t, rfl⟩ := rx
    cases y with
    | byt j => obtain ⟨t', rfl⟩ := ry; exact PySem.W.eq_bytes (fin_bl I q dec_byt)
    | _ => exact absurd (show false = true from hs) Bool.false_ne_true
  | _ => cases y <;> exact absurd (show false = true from hs) Bool.false_ne_true
theorem op_ne : OpR X (compareOp .NotEq) rNe := by
  intro pins s σ H x y v u Q I rx ry h
  obtain ⟨hs, q⟩ := h
  cases x with
  | non =>
    cases rx
    cases y with
    | non => cases ry; exact PySem.EqNone.ne_none_none (fin_bl I q (by simp))
    | bl j => cases ry; exact PySem.EqNone.ne_none_bool (fin_bl I q (by simp))
    | int j => obtain ⟨t', rfl⟩ := ry; exact PySem.EqNone.ne_none_int (fin_bl I q (by simp))
    | str j => obtain ⟨t', rfl⟩ := ry; exact PySem.EqNone.ne_none_str (fin_bl I q (by simp))
    | _ => exact absurd (show false = true from hs) Bool.false_ne_true
  | bl i =>
    cases rx
    cases y with
    | non => cases ry; exact PySem.EqNone.ne_bool_none (fin_bl I q (by simp))
    | bl j => cases ry; exact ne_bool (fin_bl I q (congrArg not dec_bl))
    | str j => obtain ⟨t', rfl⟩ := ry; exact PySem.EqMixed.ne_bool_str (fin_bl I q (by simp))
    | _ => exact absurd (show false = true from hs) Bool.false_ne_true
  | int i =>
    obtain ⟨t, rfl⟩ := rx
    cases y with
    | non => cases ry; exact PySem.EqNone.ne_int_none (fin_bl I q (by simp))
    | int j => obtain ⟨t', rfl⟩ := ry; exact ne_int (fin_bl I q (congrArg not dec_int))
    | str j => obtain ⟨t', rfl⟩ := ry; exact PySem.EqMixed.ne_int_str (fin_bl I q (by simp))
    | _ => exact absurd (show false = true from hs) Bool.false_ne_true
  | str i =>
    obtain ⟨t, rfl⟩ := rx
    cases y with
    | non => cases ry; exact PySem.EqNone.ne_str_none (fin_bl I q (by simp))
    | bl j => cases ry; exact PySem.EqMixed.ne_str_bool (fin_bl I q (by simp))
    | int j => obtain ⟨t', rfl⟩ := ry; exact PySem.EqMixed.ne_str_int (fin_bl I q (by simp))
    | str j => obtain ⟨t', rfl⟩ := ry; exact ne_str (fin_bl I q (congrArg not dec_str))
    | _ => exact absurd (show false = true from hs) Bool.false_ne_true
  | byt i =>
    obtain ⟨t, rfl⟩ := rx
    cases y with
    | byt j => obtain ⟨t', rfl⟩ := ry; exact PySem.W.ne_bytes (fin_bl I q (congrArg not dec_byt))
    | _ => exact absurd (show false = true from hs) Bool.false_ne_true
  | _ => cases y <;> exact absurd (show false = true from hs) Bool.false_ne_true
theorem op_lt : OpR X (compareOp .Lt) (rI0 fun i j => .bl (decide (i < j))) := opB0 fun _ _ _ _ _ _ _ q => lt_int q
theorem op_le : OpR X (compareOp .LtE) (rI0 fun i j => .bl (decide (i ≤ j))) := opB0 fun _ _ _ _ _ _ _ q => le_int q
theorem op_gt : OpR X (compareOp .Gt) (rI0 fun i j => .bl (decide (j < i))) := opB0 fun _ _ _ _ _ _ _ q => gt_int q
noncomputable def isObj : HO → Bool
  | .lst _ => true
  | .ins _ _ _ => true
  | _ => false
theorem nomark (b : Expr) {op : CmpOp} (h : op ≠ .In := by decide) (h2 : op ≠ .NotIn := by decide) : behindInMarks op b = false := by
  have e1 : (op == CmpOp.In) = false := by cases op <;> first | rfl | exact absurd rfl h
  have e2 : (op == CmpOp.NotIn) = false := by cases op <;> first | rfl | exact absurd rfl h2
  cases b <;> simp [behindInMarks, e1, e2]
theorem pe_cmpR {op : CmpOp} {r : R2} (ho : OpR X (compareOp op) r) (ha : PE X a ta) (hb : PE X b tb) (hm : behindInMarks op b = false) : PE X (.Compare a [op] [b] pos) (tOp r ta tb) := by
  constructor
  intro pins s σ H Q I h
  exact wpAny_Compare1 (binT ha hb I h fun v u s2 x y H2 I2 rx ry q => ho pins s2 σ H2 x y v u Q I2 rx ry q) hm
noncomputable def tTest (t : TE) : TT := fun σ H Q => t σ H fun x H' => ∃ k, x = .bl k ∧ Q k H'
theorem pt_cmpR {op : CmpOp} {r : R2} (ho : OpR X (compareOp op) r) (ha : PE X a ta) (hb : PE X b tb) (hm : behindInMarks op b = false) : PT X (.Compare a [op] [b] pos) (tTest (tOp r ta tb)) := by
  constructor
  intro pins s σ H Q I h
  refine wpAny_isTrue_Compare1 (thn (ha pins s σ H _ I h) fun v s1 ⟨x, H1, I1, r1, q1⟩ => thn (hb pins s1 σ H1 _ I1 q1) fun u s2 ⟨y, H2, I2, r2, q2⟩ =>
    thn (ho pins s2 σ H2 x y v u _ I2 r1 r2 q2) fun c s3 ⟨z, H3, I3, r3, k, e, q3⟩ => ?_) hm
  subst e
  cases r3
  exact wpAny_truthy_bool ⟨H3, I3, q3⟩
noncomputable def tChain (r r' : R2) (ta tb tc : TE) : TE := fun σ H Q => ta σ H fun x H1 => tb σ H1 fun y H2 => r x y H2 fun z H3 => ∃ k, z = .bl k ∧
  (if k = true then tc σ H3 fun w' H4 => r' y w' H4 Q else Q (.bl false) H3)
theorem pe_chain {op op' : CmpOp} {r r' : R2} (ho : OpR X (compareOp op) r) (ho' : OpR X (compareOp op') r') (ha : PE X a ta) (hb : PE X b tb) (hc : PE X c tc)
    (hm : lastMarks [op, op'] [b, c] = false := by with_unfolding_all rfl) : PE X (.Compare a [op, op'] [b, c] pos) (tChain r r' ta tb tc) := by
  constructor
  intro pins s σ H Q I h
  refine Compare_chain (thn (ha pins s σ H _ I h) fun v s1 ⟨x, H1, I1, r1, q1⟩ => chain_link (thn (hb pins s1 σ H1 _ I1 q1) fun u s2 ⟨y, H2, I2, r2, q2⟩ =>
    thn (ho pins s2 σ H2 x y v u _ I2 r1 r2 q2) fun d s3 ⟨z, H3, I3, r3, k, e, q3⟩ => ?_)) hm
  subst e
  cases r3
  refine wpAny_truthy_bool ?_
  cases k with
  | false => exact ite_ff ⟨.bl false, H3, I3, rfl, q3⟩
  | true => exact ite_tt (chain_last (thn (hc pins s3 σ H3 _ I3 q3) fun w' s4 ⟨z', H4, I4, r4, q4⟩ => ho' pins s4 σ H4 y z' u w' Q I4 r2 r4 q4))
theorem pt_chain {op op' : CmpOp} {r r' : R2} (ho : OpR X (compareOp op) r) (ho' : OpR X (compareOp op') r') (ha : PE X a ta) (hb : PE X b tb) (hc : PE X c tc)
    (hm : lastMarks [op, op'] [b, c] = false := by with_unfolding_all rfl) : PT X (.Compare a [op, op'] [b, c] pos) (tTest (tChain r r' ta tb tc)) := by
  constructor
  intro pins s σ H Q I h
  refine isTrue_chain (thn (ha pins s σ H _ I h) fun v s1 ⟨x, H1, I1, r1, q1⟩ => test_link (thn (hb pins s1 σ H1 _ I1 q1) fun u s2 ⟨y, H2, I2, r2, q2⟩ =>
    thn (ho pins s2 σ H2 x y v u _ I2 r1 r2 q2) fun d s3 ⟨z, H3, I3, r3, k, e, q3⟩ => ?_)) hm
  subst e
  cases r3
  refine wpAny_truthy_bool ?_
  cases k with
  | false =>
    obtain ⟨k', e', q'⟩ := q3
    cases e'
    exact ite_ff ⟨H3, I3, q'⟩
  | true =>
    refine ite_tt (test_last (thn (hc pins s3 σ H3 _ I3 q3) fun w' s4 ⟨z', H4, I4, r4, q4⟩ => thn (ho' pins s4 σ H4 y z' u w' _ I4 r2 r4 q4) fun d' s5 ⟨z2, H5, I5, r5, k2, e2, q5⟩ => ?_))
    subst e2
    cases r5
    exact wpAny_truthy_bool ⟨H5, I5, q5⟩
noncomputable def TruV (K : PySem.W.Frag) (x : V) (H : Hp) (k : Bool) : Prop :=
  match x with
  | .non => k = false
  | .bl b => k = b
  | .int i => k = (i != 0)
  | .str y => y.length ≤ sizeLine ∧ k = ((y.length : Int) != 0)
  | .byt y => y.size ≤ sizeLine ∧ k = ((y.size : Int) != 0)
  | .ref p => (∃ xs, SqL K H p xs ∧ k = !xs.isEmpty) ∨ (∃ xs, SqT K H p xs ∧ k = !xs.isEmpty) ∨ ∃ kvs, H p = some (.dK kvs) ∧ k = !kvs.isEmpty
  | _ => False
theorem line63 : (sizeLine : Nat) < 2 ^ 63 := by rw [sizeLine_eq]; decide
noncomputable def PlainIxT (b : Expr) : Prop := ∀ o i, subscripted b false o i = operate [o, i] (getItem o i)
theorem vals1 {x : V} {us : List Value} (r : Vals [x] us) : ∃ u, us = [u] ∧ RelV x u := by
  cases r with
  | cons r1 r2 => cases r2; exact ⟨_, rfl, r1⟩
theorem vals2 {x y : V} {us : List Value} (r : Vals [x, y] us) : ∃ u w', us = [u, w'] ∧ RelV x u ∧ RelV y w' := by
  cases r with
  | cons r1 r2 =>
    cases r2 with
    | cons r3 r4 => cases r4; exact ⟨_, _, rfl, r1, r3⟩
theorem call_max2 (hc : X.calm = true) : CallR X (.builtin "max") (fun xs H Q => ∃ i j, xs = [.int i, .int j] ∧ Q (.int (if j > i then j else i)) H) := by
  intro pins s σ H xs us Q I r h
  obtain ⟨i, j, rfl, q⟩ := h
  obtain ⟨u, w', rfl, ⟨t, rfl⟩, ⟨t', rfl⟩⟩ := vals2 r
  refine max_two_ints (I.ok.hd hc) fun h' tk k => ⟨_, H, I.kept k, ?_, q⟩
  by_cases hj : j > i
  · rw [if_pos hj, if_pos hj]; exact ⟨_, rfl⟩
  · rw [if_neg hj, if_neg hj]; exact ⟨_, rfl⟩
theorem call_min2 (hc : X.calm = true) : CallR X (.builtin "min") (fun xs H Q => ∃ i j, xs = [.int i, .int j] ∧ Q (.int (if j < i then j else i)) H) := by
  intro pins s σ H xs us Q I r h
  obtain ⟨i, j, rfl, q⟩ := h
  obtain ⟨u, w', rfl, ⟨t, rfl⟩, ⟨t', rfl⟩⟩ := vals2 r
  refine min_two_ints (I.ok.hd hc) fun h' tk k => ⟨_, H, I.kept k, ?_, q⟩
  by_cases hj : j < i
  · rw [if_pos hj, if_pos hj]; exact ⟨_, rfl⟩
  · rw [if_neg hj, if_neg hj]; exact ⟨_, rfl⟩
theorem call_int1 : CallR X (.type "int") (fun xs H Q => (∃ i, xs = [.int i] ∧ Q (.int i) H) ∨ ∃ k, xs = [.bl k] ∧ Q (.int (if k then 1 else 0)) H) := by
  intro pins s σ H xs us Q I r h
  rcases h with ⟨i, rfl, q⟩ | ⟨k, rfl, q⟩
  · obtain ⟨u, rfl, t, rfl⟩ := vals1 r
    exact call_int_int ⟨.int i, H, I, ⟨_, rfl⟩, q⟩
  · obtain ⟨u, rfl, r1⟩ := vals1 r
    cases r1
    exact call_int_bool ⟨.int (if k then 1 else 0), H, I.tok _, ⟨_, rfl⟩, q⟩
noncomputable def LenV (K : PySem.W.Frag) (x : V) (H : Hp) (n : Nat) : Prop :=
  match x with
  | .str y => y.length ≤ sizeLine ∧ n = y.length
  | .byt y => y.size ≤ sizeLine ∧ n = y.size
  | .ref p => (∃ xs, SqL K H p xs ∧ n = xs.length) ∨ ∃ xs, SqT K H p xs ∧ n = xs.length
  | _ => False
end
end L2
namespace L2
open PySem PySem.Spec PyProof.Rows
structure ObjM (h : Heap) (x dx C : Addr) (mA : Str → Option Value) : Prop where
  obj : h.get? x = some (PySem.W.instObj C dx)
  ns : h.Ns1 dx mA
  ne : dx ≠ x
theorem lookIn_ns {h : Heap} {dx : Addr} {mA : Str → Option Value} (n : h.Ns1 dx mA) : ∃ od, h.get? dx = some od ∧ ∀ name, PySem.W.lookIn name od = some (mA name) := by
  obtain ⟨o, es, ep, ho, hd, hk, _, hm⟩ := n
  refine ⟨o, ho, fun name => ?_⟩
  have e := hm name
  unfold nsFind findBy at e
  rw [← Array.find?_toList] at e
  unfold PySem.W.lookIn
  rw [hd]
  dsimp only
  split
  · rename_i y q
    rw [q] at e
    exact congrArg some e
  · rename_i q
    rw [q] at e
    have a : es.toList.any (·.refKey) = false := by
      rw [List.any_eq_false]
      intro y hy
      obtain ⟨z, t, hkey⟩ := hk y (Array.mem_toList_iff.mp hy)
      simp [DictEntry.refKey, hkey]
    have a' : ¬ es.toList.any (·.refKey) = true := by rw [a]; exact Bool.false_ne_true
    rw [if_neg a']
    exact congrArg some e
theorem ObjM.look {h : Heap} {x dx C : Addr} {mA : Str → Option Value} (I : ObjM h x dx C mA) : ∃ od, PySem.W.InstAt h x (PySem.W.instObj C dx) C (some od) ∧ ∀ name, PySem.W.lookIn name od = some (mA name) :=
  let ⟨od, ho, hl⟩ := lookIn_ns I.ns
  ⟨od, ⟨I.obj, rfl, rfl, ho⟩, hl⟩
section
variable {prog : Program} {w : World} {A : Around} {E : Value → Shared → Prop} {s : Shared} {K : PySem.W.Frag} {x dx C f : Addr} {mA : Str → Option Value} {name : Str} {v : Value}
end
noncomputable def putF (f : Str) (v : V) : List (Str × V) → List (Str × V)
  | [] => [(f, v)]
  | (g, x) :: r => if g = f then (g, v) :: r else (g, x) :: putF f v r
section
variable {P : Program} {w : World} {H H' : Hp} {h h' : Heap} {a C dx : Addr} {fs fs' : List (Str × V)}
theorem ins_get (hok : HOk P w H h) (e : H a = some (.ins C dx fs)) : ∃ mA, ObjM h a dx C mA ∧ (∀ f, RelO (fs.lookup f) (mA f)) ∧ PySem.Within mA (fs.map (·.1)) ∧ fs.length ≤ 1000 ∧ H dx = some (.own a) := by
  obtain ⟨d, z, ne, ob, mA, n, r, q⟩ := (show ObjOk P w H h a (.ins C dx fs) from hok a _ e)
  exact ⟨mA, ⟨ob, n, ne⟩, r, q, z, d⟩
end
structure Cls (K : PySem.W.Frag) (C : Addr) : Prop where
  pg : PySem.W.plainGet K C Str.empty = true
  hd : PySem.W.hasDictIn K C = true
  po : PySem.W.plainOver K C = true
  sa : PySem.W.findIn K (.ref C) "__setattr__" = some (some (.builtin "object.__setattr__"))
theorem Cls.get {K : PySem.W.Frag} {C : Addr} (c : Cls K C) (f : Str) : PySem.W.plainGet K C f = true := c.pg
noncomputable def NoAttr (K : PySem.W.Frag) (C : Addr) (f : Str) : Prop := PySem.W.findIn K (.ref C) f = some none
structure Con (K : PySem.W.Frag) (C : Addr) (f : Str) (v : V) (u : Value) : Prop where
  at_ : PySem.W.findIn K (.ref C) f = some (some u)
  rel : RelV v u
  get : PySem.W.specialIn K u "__get__" = some none
  cp : PySem.W.copiedNames.contains f = false
structure Meth (K : PySem.W.Frag) (C : Addr) (m : Str) (f : Addr) : Prop where
  at_ : PySem.W.findIn K (.ref C) m = some (some (.ref f))
  fn : PySem.W.isFn K (.ref f) = true
  kp : PySem.W.keepIn K (.ref f) = true
section
variable {X : Cx} {pins : List (Addr × Obj)} {σ : St} {H : Hp} {s : Shared} {a C dx : Addr} {fs : List (Str × V)} {f : Str} {v : V} {A : Around} {E : Value → Shared → Prop}
end
noncomputable def tFld (K : PySem.W.Frag) (ta : TE) (f : Str) : TE := fun σ H Q => ta σ H fun x H1 => ∃ a C dx fs v, x = .ref a ∧ H1 a = some (.ins C dx fs) ∧ Cls K C ∧ NoAttr K C f ∧ fs.lookup f = some v ∧ Q v H1
noncomputable def tCon (K : PySem.W.Frag) (ta : TE) (f : Str) : TE := fun σ H Q => ta σ H fun x H1 => ∃ a C dx fs v u, x = .ref a ∧ H1 a = some (.ins C dx fs) ∧ Cls K C ∧ Con K C f v u ∧ fs.lookup f = none ∧ Q v H1
noncomputable def sFld (K : PySem.W.Frag) (ta tv : TE) (f : Str) : TS := fun D σ H => tv σ H fun y H1 => ta σ H1 fun x H2 => ∃ a C dx fs, x = .ref a ∧ H2 a = some (.ins C dx fs) ∧ Cls K C ∧ NoAttr K C f ∧ fs.length < 1000 ∧
  D.nx σ (upd H2 a (.ins C dx (putF f y fs)))
noncomputable def InOp (X : Cx) (op : Operator) (rd : V → V → Hp → VK → Prop) : Prop :=
  ∀ (pins : List (Addr × Obj)) (s : Shared) (σ : St) (H : Hp) (x y : V) (u v : Value) (Q : VK), Inv X pins σ H s → RelV x u → RelV y v → rd x y H Q → wpAny (model X.prog X.w) X.A (inplaceOp op u v) (EP X pins σ Q) X.xe s
noncomputable def sFldAug (K : PySem.W.Frag) (ta tv : TE) (rd : V → V → Hp → VK → Prop) (f : Str) : TS := fun D σ H => ta σ H fun x H1 => ∃ a C dx fs v, x = .ref a ∧ H1 a = some (.ins C dx fs) ∧ Cls K C ∧ NoAttr K C f ∧ fs.lookup f = some v ∧
  tv σ H1 fun y H2 => rd v y H2 fun z H3 => ∃ dx' fs', H3 a = some (.ins C dx' fs') ∧ fs'.length < 1000 ∧ D.nx σ (upd H3 a (.ins C dx' (putF f z fs')))
section
variable {X : Cx} {o e value : Expr} {f : Str} {pos pos' tpos : Pos} {ta tv : TE}
noncomputable def rAdd : V → V → Hp → VK → Prop := fun x y H Q => ∃ i j, x = .int i ∧ y = .int j ∧ Q (.int (i + j)) H
noncomputable def rSub : V → V → Hp → VK → Prop := fun x y H Q => ∃ i j, x = .int i ∧ y = .int j ∧ Q (.int (i - j)) H
end
section
variable {X : Cx} {pins : List (Addr × Obj)} {σ : St} {H : Hp} {s : Shared} {A : Around} {E : Value → Shared → Prop} {Q : Value → Shared → Prop} {c : Value} {b : Bool}
inductive TyOf (K : PySem.W.Frag) (H : Hp) : V → Value → Prop where
  | non : TyOf K H .non (.type "NoneType")
  | bl (x : Bool) : TyOf K H (.bl x) (.type "bool")
  | int (i : Int) : TyOf K H (.int i) (.type "int")
  | str (x : Str) : TyOf K H (.str x) (.type "str")
  | flt (x : UInt64) : TyOf K H (.flt x) (.type "float")
  | lst {a : Addr} {xs : List V} (e : H a = some (.lst xs)) : TyOf K H (.ref a) (.type "list")
  | frz {a : Addr} {o : Obj} {xs : List V} (e : H a = some (.frz o (.lst xs))) : TyOf K H (.ref a) (.type "list")
  | tup {a : Addr} {xs : List V} (e : H a = some (.tup xs)) : TyOf K H (.ref a) (.type "tuple")
  | dK {a : Addr} {kvs : List (Key × V)} (e : H a = some (.dK kvs)) : TyOf K H (.ref a) (.type "dict")
  | dT {a : Addr} {kvs : List (List Key × V)} (e : H a = some (.dT kvs)) : TyOf K H (.ref a) (.type "dict")
  | ins {a C dx : Addr} {fs : List (Str × V)} (e : H a = some (.ins C dx fs)) (cl : Cls K C) (ha : PySem.W.findIn K (.ref C) "__class__" = some (some (.builtin "object.__class__")))
      (hn : PySem.W.specialIn K (.builtin "object.__class__") "__get__" = some (some (.builtin "getset_descriptor.__get__"))) (htk : PySem.W.takesIn K (.builtin "object.__class__") = some true)
      (hm : PySem.W.mroIn K C (.type "object") = some true) : TyOf K H (.ref a) (.ref C)
theorem isinst_ok {x : V} {u t : Value} (I : Inv X pins σ H s) (rx : RelV x u) (ty : TyOf X.K H x t) (e : PySem.W.kitOne X.K t c = some b) (h : ∀ tk, Q (.bool b) { s with toks := tk }) :
    wpAny (model X.prog X.w) A (call (.builtin "isinstance") [u, c]) Q E s := by
  cases ty with
  | non => cases (show u = Value.none from rx); exact PySem.W.kia_one PySem.W.kitx_none I.kIn True.intro e (fun z => nomatch z) h
  | bl y => cases (show u = Value.bool y from rx); exact PySem.W.kia_one PySem.W.kitx_bool I.kIn True.intro e (fun z => nomatch z) h
  | int i => obtain ⟨t, q⟩ := (show ∃ t, u = Value.int i t from rx); cases q; exact PySem.W.kia_one PySem.W.kitx_int I.kIn True.intro e (fun z => nomatch z) h
  | str y => obtain ⟨t, q⟩ := (show ∃ t, u = Value.str y t from rx); cases q; exact PySem.W.kia_one PySem.W.kitx_str I.kIn True.intro e (fun z => nomatch z) h
  | flt y => obtain ⟨t, q⟩ := (show ∃ t, u = Value.float y t from rx); cases q; exact PySem.W.kia_one PySem.W.kitx_float I.kIn True.intro e (fun z => nomatch z) h
  | @lst a xs ea =>
    cases (show u = Value.ref a from rx)
    obtain ⟨_, _, n, _, h1⟩ := (show ObjOk X.prog X.w H s.heap a (.lst xs) from I.hok a _ ea)
    exact PySem.W.kia_one PySem.W.kitx_list I.kIn ⟨_, h1, rfl⟩ e (fun z => nomatch z) h
  | @frz a ob xs ea =>
    cases (show u = Value.ref a from rx)
    obtain ⟨_, _, _, n, _, h1⟩ := (show ObjOk X.prog X.w H s.heap a (.frz ob (.lst xs)) from I.hok a _ ea)
    exact PySem.W.kia_one PySem.W.kitx_list I.kIn ⟨_, h1, rfl⟩ e (fun z => nomatch z) h
  | @tup a xs ea =>
    cases (show u = Value.ref a from rx)
    obtain ⟨_, _, _, p⟩ := (show ObjOk X.prog X.w H s.heap a (.tup xs) from I.hok a _ ea)
    obtain ⟨o, h1, h2, _⟩ := p
    exact PySem.W.kia_one PySem.W.kitx_tuple I.kIn ⟨o, h1, h2⟩ e (fun z => nomatch z) h
  | @dK a kvs ea =>
    cases (show u = Value.ref a from rx)
    obtain ⟨_, _, vs, _, p⟩ := (show ObjOk X.prog X.w H s.heap a (.dK kvs) from I.hok a _ ea)
    obtain ⟨o, es, ep, h1, h2, _⟩ := p
    exact PySem.W.kia_one PySem.W.kitx_dict I.kIn ⟨o, h1, h2.1⟩ e (fun z => nomatch z) h
  | @dT a kvs ea =>
    cases (show u = Value.ref a from rx)
    obtain ⟨_, _, xs, _, o, es, ep, h1, h2, _⟩ := (show ObjOk X.prog X.w H s.heap a (.dT kvs) from I.hok a _ ea)
    exact PySem.W.kia_one PySem.W.kitx_dict I.kIn ⟨o, h1, h2.1⟩ e (fun z => nomatch z) h
  | @ins a C dx fs ea cl ha hn htk hm =>
    cases (show u = Value.ref a from rx)
    obtain ⟨mA, O, _⟩ := ins_get I.hok ea
    obtain ⟨od, J, _⟩ := O.look
    exact PySem.W.kia_one (PySem.W.kitx_own (cl.get _) cl.hd ha hn htk hm) I.kIn J e (fun z => nomatch z) h
end
end L2
namespace L2
open PySem PySem.Spec PyProof.Rows
structure Room (k : Nat) (A : Around) : Prop where
  dp : A.depth + 3 * k + 5 < recursionLimit
  un : A.units + 16 * k + 200 < cLine
theorem Room.mono {j k : Nat} {A : Around} (r : Room k A) (h : j ≤ k) : Room j A := ⟨by have := r.dp; omega, by have := r.un; omega⟩
theorem Room.deeper {k : Nat} {A : Around} (r : Room (k + 1) A) (env : Env) : Room k (A.deeper env) :=
  ⟨by have := r.dp; show A.depth + 1 + 3 * k + 5 < _; omega, by have := r.un; show A.units + 3 + 16 * k + 200 < _; omega⟩
theorem Room.in1 {k : Nat} {A : Around} (r : Room (k + 1) A) : Room k A.in1 :=
  ⟨by have := r.dp; show A.depth + 3 * k + 5 < _; omega, by have := r.un; show A.units + 1 + 16 * k + 200 < _; omega⟩
theorem Room.depth {k : Nat} {A : Around} (r : Room k A) : A.depth < recursionLimit := by have := r.dp; omega
theorem Room.units {k : Nat} {A : Around} (r : Room k A) : A.units + 64 < cLine := by have := r.un; omega
theorem Room.units0 {k : Nat} {A : Around} (r : Room k A) : A.units < cLine := by have := r.un; omega
noncomputable def tNil : TA := fun _ H Q => Q [] H
noncomputable def tCons (ta : TE) (tr : TA) : TA := fun σ H Q => ta σ H fun x H1 => tr σ H1 fun xs H2 => Q (x :: xs) H2
section
variable {X : Cx} {e : Expr} {es : List Expr} {te : TE} {t : TA} {pos : Pos}
theorem pa_nil : PA X [] tNil := .mk fun _ _ _ _ H Q I h => Calls.spliced_nil ⟨[], H, I, .nil, h⟩
theorem pa_cons (ha : PE X e te) (hr : PA X es t) (hs : starEach (e :: es) X.env = (false, eval e X.env) :: starEach es X.env := by rfl) : PA X (e :: es) (tCons te t) := by
  constructor
  intro pos pins s σ H Q I h
  rw [hs]
  show wpAny _ _ (spliced ((false, eval e X.env) :: backTo pos (starEach es X.env))) _ _ s
  refine Calls.spliced_cons (thn (ha pins s σ H _ I h) fun u s1 ⟨x, H1, I1, r1, q1⟩ => ?_)
  exact thn (hr pos pins s1 σ H1 _ I1 q1) fun us s2 ⟨xs, H2, I2, r2, q2⟩ => ⟨x :: xs, H2, I2, .cons r1 r2, q2⟩
noncomputable def tTup (t : TA) : TE := fun σ H Q => t σ H fun xs H1 => xs.length ≤ sizeLine ∧ ∀ p, H1 p = none → Q (.ref p) (upd H1 p (.tup xs))
noncomputable def tLst (t : TA) : TE := fun σ H Q => t σ H fun xs H1 => xs.length ≤ sizeLine ∧ ∀ p, H1 p = none → Q (.ref p) (upd H1 p (.lst xs))
theorem pe_tup {x1} (h : PA X es t) : PE X (.Tuple es x1 pos) (tTup t) := by
  constructor
  intro pins s σ H Q I hq
  refine wpAny_Tuple_spliced (thn (h pos pins s σ H _ I hq) fun us s1 ⟨xs, H1, I1, r, z, q⟩ => ⟨by rw [← r.length]; exact z, ?_⟩)
  have hf : H1 s1.heap.objs.size = none := I1.hok.fresh (Nat.le_refl _)
  refine ⟨.ref s1.heap.objs.size, upd H1 s1.heap.objs.size (.tup xs), I1.laid (t' := s1.toks) (fun b u e => Heap.get?_push_of_some _ e) (Nat.le_refl _) ?_, rfl, q _ hf⟩
  exact ⟨z, us, r, ⟨_, Heap.get?_push_size _ rfl, rfl, _, rfl⟩⟩
theorem pe_lst (h : PA X es t) : PE X (.List es pos) (tLst t) := by
  constructor
  intro pins s σ H Q I hq
  refine wpAny_List_spliced (thn (h pos pins s σ H _ I hq) fun us s1 ⟨xs, H1, I1, r, z, q⟩ => ⟨by rw [← r.length]; exact z, ?_⟩)
  have hf : H1 s1.heap.objs.size = none := I1.hok.fresh (Nat.le_refl _)
  refine ⟨.ref s1.heap.objs.size, upd H1 s1.heap.objs.size (.lst xs), I1.laid (t' := s1.toks) (fun b u e => Heap.get?_push_of_some _ e) (Nat.le_refl _) ?_, rfl, q _ hf⟩
  exact ⟨z, us, 0, r, Heap.get?_push_size _ rfl⟩
end
noncomputable abbrev Sp := List V → Hp → VK → XK → Prop
noncomputable abbrev CXT := List Env → Hp → Shared → XK → Value → Shared → Prop
structure Env0 (P : Program) (w : World) (K : PySem.W.Frag) (mg : Str → Option Value) (base : Heap) (A : Around) (outer : List Env) (s : Shared) (H : Hp) : Prop where
  frames : A.frames = some outer
  mod : Mod K mg base
  bs : ∀ b o, base.get? b = some o → s.heap.get? b = some o ∧ H b = none
  bsz : base.objs.size ≤ s.heap.objs.size
  funs : s.heap.FunFrames base outer
  frf : ∀ b ∈ frs outer, H b = none
  hok : HOk P w H s.heap
  bare : AllBare s.gens
noncomputable def CE (outer : List Env) (P : Program) (w : World) (H : Hp) (s : Shared) (Q : VK) (u : Value) (s' : Shared) : Prop :=
  ∃ v H', s'.os = s.os ∧ AllBare s'.gens ∧ Un (frs outer) [] H H' s.heap s'.heap ∧ HOk P w H' s'.heap ∧ RelV v u ∧ Q v H'
noncomputable def CR (CX : CXT) (outer : List Env) (P : Program) (w : World) (H : Hp) (s : Shared) (Q : VK) (E : XK) (r : Result) (s' : Shared) : Prop :=
  match r with
  | .ok (.ret u) => CE outer P w H s Q u s'
  | .ok _ => False
  | .error e => CX outer H s E e s'
structure FnOk (P : Program) (w : World) (K : PySem.W.Frag) (mg : Str → Option Value) (base : Heap) (CX : CXT) (c : Bool) (k : Nat) (f : Addr) (fd : FuncData) (ps : List Str) (sp : Sp) : Prop where
  len : ∀ vs H Q E, sp vs H Q E → vs.length = ps.length
  run : ∀ (A : Around) (outer : List Env) (s : Shared) (H : Hp) (args : Args) (us : List Value) (vs : List V) (Q : VK) (E : XK) (hx : Option (Addr × Obj)), (c = true → A.handled = none) → HdOk hx A → HxOk hx H → Room k A → Env0 P w K mg base A outer s H → BindsTo s fd args (ps.zip us) → Vals vs us → sp vs H Q E →
    codeAny (model P w) A (.call (.ref f) args) (CR CX outer P w H s Q E) s
theorem Env0.in1 {P : Program} {w : World} {K : PySem.W.Frag} {mg : Str → Option Value} {base : Heap} {A : Around} {outer : List Env} {s : Shared} {H : Hp} (e : Env0 P w K mg base A outer s H) :
    Env0 P w K mg base A.in1 outer s H := ⟨e.frames, e.mod, e.bs, e.bsz, e.funs, e.frf, e.hok, e.bare⟩
section
variable {X : Cx} {pins : List (Addr × Obj)} {σ : St} {H : Hp} {s s' : Shared}
theorem Inv.env0 (I : Inv X pins σ H s) : Env0 X.prog X.w X.K X.mg X.base X.A X.stack s H :=
  ⟨I.ok.frames, I.ok.mod, I.bs, Nat.le_trans I.ok.bsz I.sz, I.stack, I.stkFree, I.hok, I.bare⟩
theorem Inv.after {Q : VK} {u : Value} (I : Inv X pins σ H s) (h : CE X.stack X.prog X.w H s Q u s') : EP X pins σ Q u s' := by
  obtain ⟨v, H', os, bare, un, hok, r, q⟩ := h
  obtain ⟨hh, g, d, t, os'⟩ := s'
  obtain rfl : os' = s.os := os
  exact ⟨v, H', I.call (h' := hh) (g' := g) (d' := d) (t' := t) (ch := []) un hok bare (fun b z => absurd z (by simp)), r, q⟩
end
noncomputable def tCall (sp : Sp) (dvs : List V) (E : XK) (t : TA) : TE := fun σ H Q => t σ H fun vs H1 => sp (vs ++ dvs) H1 Q E
noncomputable def tMeth (C : Addr) (m : Str) (sp : Sp) (dvs : List V) (E : XK) (ta : TE) (t : TA) : TE := fun σ H Q => ta σ H fun x H1 => ∃ a dx fs, x = .ref a ∧ H1 a = some (.ins C dx fs) ∧ fs.lookup m = none ∧
  t σ H1 fun vs H2 => sp (x :: (vs ++ dvs)) H2 Q E
noncomputable def tMake (C : Addr) (sp : Sp) (dvs : List V) (E : XK) (t : TA) : TE := fun σ H Q => t σ H fun vs H1 => ∀ x dx, H1 x = none → H1 dx = none → dx ≠ x →
  sp (.ref x :: (vs ++ dvs)) (upd (upd H1 dx (.own x)) x (.ins C dx [])) (fun v H2 => v = .non ∧ Q (.ref x) H2) E
noncomputable def Binds (K : PySem.W.Frag) (fd : FuncData) (ps : List Str) (ds : List Value) : Prop :=
  ∀ (s : Shared) (us : List Value), K.In s.heap → (us ++ ds).length = ps.length → BindsTo s fd ⟨us, []⟩ (ps.zip (us ++ ds))
theorem Binds.all {K : PySem.W.Frag} {fd : FuncData} {ps : List Str} (h : ∀ us : List Value, us.length = ps.length → bindArgs fd ⟨us, []⟩ = pure (ps.zip us)) : Binds K fd ps [] := fun s us _ hl => by
  rw [List.append_nil] at hl ⊢
  exact .of_eq (h us hl)
noncomputable def Passes (CX : CXT) (X : Cx) (E : XK) : Prop := ∀ (pins : List (Addr × Obj)) (σ : St) (H : Hp) (s : Shared) (e : Value) (s' : Shared), Inv X pins σ H s → CX X.stack H s E e s' → X.xe e s'
section
variable {X : Cx} {CX : CXT} {c : Bool} {k : Nat} {f C : Addr} {fd : FuncData} {ps : List Str} {sp : Sp} {dvs : List V} {ds : List Value} {E : XK} {x m : Str} {p pos apos : Pos} {e o : Expr} {es : List Expr} {ta : TE} {t : TA}
theorem run_fn {pins : List (Addr × Obj)} {σ : St} {H : Hp} {s : Shared} {Q : VK} {us : List Value} {vs : List V} (F : FnOk X.prog X.w X.K X.mg X.base CX c k f fd ps sp) (hca : c = true → X.calm = true) (hr : Room k X.A) (hb : Binds X.K fd ps ds) (hd : Vals dvs ds) (hx : Passes CX X E)
    (I : Inv X pins σ H s) (r : Vals vs us) (h : sp (vs ++ dvs) H Q E) : wpAny (model X.prog X.w) X.A (call (.ref f) us) (EP X pins σ Q) X.xe s := by
  have r2 : Vals (vs ++ dvs) (us ++ ds) := r.append hd
  have hl : (us ++ ds).length = ps.length := by rw [← r2.length]; exact F.len _ _ _ _ h
  refine wpAny_call (codeAny_mono (F.run X.A X.stack s H ⟨us, []⟩ (us ++ ds) (vs ++ dvs) Q E X.hx (fun z => I.ok.hd (hca z)) I.ok.hnd I.hxs hr I.env0 (hb s us I.kIn hl) r2 h) fun r s' hq => ?_)
  cases r with
  | error e => exact hx pins σ H s e s' I hq
  | ok fl =>
    cases fl with
    | ret u => exact I.after hq
    | next => exact False.elim hq
    | brk => exact False.elim hq
    | cont => exact False.elim hq
theorem pe_call (F : FnOk X.prog X.w X.K X.mg X.base CX c k f fd ps sp) (hca : c = true → X.calm = true) (hr : Room k X.A) (hg : Gl X x) (hm : X.mg x = some (.ref f)) (hk : PySem.W.keepIn X.K (.ref f) = true) (hb : Binds X.K fd ps ds) (hd : Vals dvs ds) (hx : Passes CX X E)
    (ha : PA X (e :: es) t) (hdb : (x == ("__debug__" : Str)) = false := by decide) (he : starEach (e :: es) X.env = (false, eval e X.env) :: starEach es X.env := by rfl) (hpl : (backTo pos (starEach es X.env)).any (·.1) = false := by rfl) :
    PE X (.Call (.Name x p) (e :: es) [] pos) (tCall sp dvs E t) := by
  constructor
  intro pins s σ H Q I h
  refine wpAny_Call_Name_kw (ld_glob I hg hm ?_ hdb)
  refine PySem.W.callWith_K (h₀ := X.base) I.ok.mod.kin hk (thn (ha pos pins s σ H _ I h) fun us s1 ⟨vs, H1, I1, r, q⟩ => ⟨I1.kIn, ?_⟩) he hpl
  exact run_fn F hca hr hb hd hx I1 r q
structure Mk (K : PySem.W.Frag) (C f : Addr) : Prop where
  makes : PySem.W.makesIn K C = true
  init : PySem.W.findIn K (.ref C) "__init__" = some (some (.ref f))
  fn : PySem.W.isFn K (.ref f) = true
  kp : PySem.W.keepIn K (.ref C) = true
end
noncomputable def PK (X : Cx) (kws : List Keyword) (t : TA) : Prop :=
  ∀ (pos : Pos) (pins : List (Addr × Obj)) (s : Shared) (σ : St) (H : Hp) (Q : List V → Hp → Prop), Inv X pins σ H s → t σ H Q → wpAny (model X.prog X.w) X.A (evalAll ((backToKw pos (keywordEach kws X.env)).map (·.2))) (AP X pins σ Q) X.xe s
section
variable {X : Cx} {CX : CXT} {c : Bool} {k : Nat} {f C : Addr} {fd : FuncData} {ps ks : List Str} {sp : Sp} {E : XK} {x m : Str} {p pos apos kpos : Pos} {e o : Expr} {es : List Expr} {kws : List Keyword} {te ta : TE} {t tk : TA} {nm : Option Str}
structure KBinds (K : PySem.W.Frag) (fd : FuncData) (ps ks : List Str) (g : List Value → List Value → List Value) (gV : List V → List V → List V) : Prop where
  to : ∀ (s : Shared) (us ws : List Value), K.In s.heap → (g us ws).length = ps.length → BindsTo s fd ⟨us, ks.zip ws⟩ (ps.zip (g us ws))
  rel : ∀ {vs : List V} {us : List Value} {zs : List V} {ws : List Value}, Vals vs us → Vals zs ws → Vals (gV vs zs) (g us ws)
noncomputable def tCallK (sp : Sp) (gV : List V → List V → List V) (E : XK) (t tk : TA) : TE := fun σ H Q => t σ H fun vs H1 => tk σ H1 fun zs H2 => sp (gV vs zs) H2 Q E
variable {g : List Value → List Value → List Value} {gV : List V → List V → List V}
end
structure FnScope (N P : List Str) (sc : Scope) : Prop where
  kind : sc.kind = .function
  co : sc.isCoroutine = false
  gen : sc.isGenerator = false
  nd : N.Nodup
  pre : N.take P.length = P
  par : ∀ x ∈ P, sc.names.lookup x = some .local ∨ sc.names.lookup x = some .cell
  nofree : ∀ y ∈ sc.names, y.2 ≠ .free
theorem bindL_out {kindOf : Str → Option NameKind} {x : Str} : ∀ {binds : List (Str × Value)} {m : Str → Option Value}, (∀ v, (x, v) ∉ binds) → bindL kindOf binds m x = m x
  | [], _, _ => rfl
  | (n, v) :: r, m, h => by
    unfold bindL
    rw [bindL_out fun w hw => h w (List.mem_cons_of_mem _ hw)]
    split
    · have : x ≠ n := by rintro rfl; exact h v List.mem_cons_self
      simp [this]
    · rfl
theorem bindC_out {kindOf : Str → Option NameKind} {x : Str} : ∀ {binds : List (Str × Value)} {m : Str → Option Value}, (∀ v, (x, v) ∉ binds) → bindC kindOf binds m x = m x
  | [], _, _ => rfl
  | (n, v) :: r, m, h => by
    unfold bindC
    rw [bindC_out fun w hw => h w (List.mem_cons_of_mem _ hw)]
    split
    · rfl
    · have : x ≠ n := by rintro rfl; exact h v List.mem_cons_self
      simp [this]
theorem bindL_get {kindOf : Str → Option NameKind} {x : Str} {v : Value} : ∀ {P : List Str} {vs : List Value} {i : Nat} {m : Str → Option Value}, P.Nodup → P[i]? = some x → vs[i]? = some v → kindOf x = some .local →
    bindL kindOf (P.zip vs) m x = some v
  | [], _, _, _, _, h, _, _ => by simp at h
  | _ :: _, [], _, _, _, _, h, _ => by simp at h
  | p :: P, w :: vs, 0, m, nd, h1, h2, hk => by
    simp at h1 h2; subst h1; subst h2
    show bindL kindOf ((p, w) :: P.zip vs) m p = _
    unfold bindL
    rw [bindL_out fun v hv => (List.nodup_cons.mp nd).1 (List.of_mem_zip hv).1, if_pos hk]
    simp
  | p :: P, w :: vs, i + 1, m, nd, h1, h2, hk => by
    show bindL kindOf ((p, w) :: P.zip vs) m x = _
    unfold bindL
    exact bindL_get (i := i) (List.nodup_cons.mp nd).2 (by simpa using h1) (by simpa using h2) hk
theorem bindC_get {kindOf : Str → Option NameKind} {x : Str} {v : Value} : ∀ {P : List Str} {vs : List Value} {i : Nat} {m : Str → Option Value}, P.Nodup → P[i]? = some x → vs[i]? = some v → kindOf x ≠ some .local →
    bindC kindOf (P.zip vs) m x = some v
  | [], _, _, _, _, h, _, _ => by simp at h
  | _ :: _, [], _, _, _, _, h, _ => by simp at h
  | p :: P, w :: vs, 0, m, nd, h1, h2, hk => by
    simp at h1 h2; subst h1; subst h2
    show bindC kindOf ((p, w) :: P.zip vs) m p = _
    unfold bindC
    rw [bindC_out fun v hv => (List.nodup_cons.mp nd).1 (List.of_mem_zip hv).1, if_neg hk]
    simp
  | p :: P, w :: vs, i + 1, m, nd, h1, h2, hk => by
    show bindC kindOf ((p, w) :: P.zip vs) m x = _
    unfold bindC
    exact bindC_get (i := i) (List.nodup_cons.mp nd).2 (by simpa using h1) (by simpa using h2) hk
noncomputable def start (N : List Str) (vs : List V) : St := vs.map some ++ List.replicate (N.length - vs.length) none
noncomputable def cxOf (CX : CXT) (P : Program) (w : World) (K : PySem.W.Frag) (mg : Str → Option Value) (base : Heap) (c : Bool) (hx : Option (Addr × Obj)) (N : List Str) (qual : Str) (scope : Scope) (f : Addr) (cd : Value) (A : Around) (outer : List Env) (s : Shared) (H : Hp) (E : XK) : Cx where
  prog := P
  w := w
  K := K
  mg := mg
  base := base
  A := A.deeper (envOfC qual scope s.heap.objs.size f cd)
  N := N
  s₀ := s
  H₀ := H
  env := envOfC qual scope s.heap.objs.size f cd
  outer := outer
  stack := envOfC qual scope s.heap.objs.size f cd :: outer
  ex := []
  calm := c
  hx := hx
  fn := fun _ => true
  pn := []
  xe := fun e s' => wpAny (model P w) (A.deeper (envOfC qual scope s.heap.objs.size f cd)) (leaving (envOfC qual scope s.heap.objs.size f cd) e) (fun _ s'' => CX outer H s E e s'') (fun e' s'' => CX outer H s E e' s'') s'
theorem cell_has {sc : Scope} {n : Nat} {x : Str} (h : sc.names.lookup x = some .cell) : ∃ c, (cellsFrom n sc.names []).lookup x = some c := by
  have q := PySem.W.cellsFrom_some sc.names n [] (.inl h)
  exact Option.isSome_iff_exists.mp q
theorem inv_start {CX : CXT} {P : Program} {w : World} {K : PySem.W.Frag} {mg : Str → Option Value} {base : Heap} {c : Bool} {hx : Option (Addr × Obj)} {N ps : List Str} {qual : Str} {scope : Scope} {f : Addr} {cd : Value} {A : Around} {outer : List Env} {s s1 : Shared} {H : Hp} {E : XK} {us : List Value} {vs : List V}
    (S : FnScope N ps scope) (hca : c = true → A.handled = none) (hd : HdOk hx A) (hh : HxOk hx H) (e0 : Env0 P w K mg base A outer s H) (hl : vs.length = ps.length) (r : Vals vs us)
    (x : InCallC s s.heap.objs.size (bindL (envOfC qual scope s.heap.objs.size f cd).kindOf (ps.zip us) fun _ => none) (cellsFrom (s.heap.objs.size + 1) scope.names []) (bindC (envOfC qual scope s.heap.objs.size f cd).kindOf (ps.zip us) fun _ => none) s1) :
    Inv (cxOf CX P w K mg base c hx N qual scope f cd A outer s H E) [] (start N vs) H s1 := by
  have hpl : ps.length ≤ N.length := by have := congrArg List.length S.pre; rw [List.length_take] at this; omega
  obtain ⟨h1, tk, rfl, hk⟩ := x.done
  have noA : ∀ b : Addr, b ∉ (cxOf CX P w K mg base c hx N qual scope f cd A outer s H E).ex := fun b z => absurd (show b ∈ ([] : List Addr) from z) (by simp)
  refine ⟨⟨e0.mod, S.kind, rfl, rfl, Nat.le_refl _, fun y z c h1 h2 => ?_, fun y hy => ?_, fun y c _ h => ?_, fun z => hca z, Around.frames_deeper e0.frames, .inr ⟨rfl, rfl⟩, fun b z => absurd z (noA b), e0.bs, e0.bsz, fun b _ _ => noA b, fun b z => absurd z (noA b), e0.funs, e0.frf, hd.mono rfl⟩,
    rfl, e0.bare, Un.kept hk, ⟨_, x.toInCall.ns, fun i y v h1 h2 h3 => ?_⟩, fun y c h => ⟨_, x.cell y c h⟩, e0.hok.fresh (Nat.le_refl _), fun y c h => ?_, fun p hp => absurd (show p ∈ ([] : List (Addr × Obj)) from hp) (by simp), e0.hok.kept hk, ?_, hh⟩
  · exact name_of_addr x.apart (PySem.mem_of_lookup h1) (PySem.mem_of_lookup h2)
  · have hy : scope.names.lookup y = some .cell ∨ scope.names.lookup y = some .free := hy
    rcases hy with hy | hy
    · exact cell_has hy
    · exact absurd rfl (S.nofree _ (PySem.mem_of_lookup hy))
  · exact Nat.le_of_lt (x.above y c (PySem.mem_of_lookup h))
  · have hi : i < vs.length := by
      unfold start at h2
      by_cases hi : i < vs.length
      · exact hi
      · rw [List.getElem?_append_right (by simpa using hi)] at h2
        rw [List.getElem?_replicate] at h2
        split at h2 <;> cases h2
    have ha : vs[i]? = some v := by
      unfold start at h2
      rw [List.getElem?_append_left (by simpa using hi), List.getElem?_map] at h2
      cases e : vs[i]? with
      | none => rw [e] at h2; cases h2
      | some a => rw [e] at h2; cases h2; rfl
    obtain ⟨u, hu, rv⟩ := r.get ha
    have hp : ps[i]? = some y := by
      rw [← S.pre, List.getElem?_take_of_lt (by omega)]; exact h1
    have ndP : ps.Nodup := by rw [← S.pre]; exact S.nd.sublist (List.take_sublist _ _)
    refine ⟨u, rv, ?_⟩
    rcases S.par y (List.mem_of_getElem? hp) with k | k
    · exact .inl ⟨k, bindL_get ndP hp hu k⟩
    · obtain ⟨c, e⟩ := cell_has (n := s.heap.objs.size + 1) k
      refine .inr ⟨.inl k, c, e, ?_⟩
      have q := x.cell y c e
      rw [bindC_get ndP hp hu (by show scope.names.lookup y ≠ _; rw [k]; decide)] at q
      exact q
  · exact e0.hok.fresh (Nat.le_of_lt (x.above y c (PySem.mem_of_lookup h)))
  · unfold start
    show _ = N.length
    rw [List.length_append, List.length_map, List.length_replicate]
    omega
theorem fn_of {CX : CXT} {P : Program} {w : World} {K : PySem.W.Frag} {mg : Str → Option Value} {base : Heap} {c : Bool} {k : Nat} {f : Addr} {name qual : Str} {params : Arguments} {body : List Stmt} {scope : Scope} {dV kV doc pm cdv ct oc : Value} {an od : Option Addr}
    {osl : Array (Option Value)} {N ps : List Str} {sp : Sp} (lk : K.lookup f = some ⟨oc, od, .func (PySem.W.fnOf name qual params body scope dV kV doc pm an cdv ct), osl⟩) (hcd : PySem.W.codeIn K cdv qual = true) (S : FnScope N ps scope)
    (len : ∀ vs H Q E, sp vs H Q E → vs.length = ps.length)
    (hbody : ∀ (A : Around) (outer : List Env) (s : Shared) (H : Hp) (vs : List V) (Q : VK) (E : XK) (hx : Option (Addr × Obj)), (c = true → hx = none) → HxOk hx H → Room k (A.deeper (envOfC qual scope s.heap.objs.size f cdv)) → sp vs H Q E →
      ∃ t, PSs (cxOf CX P w K mg base c hx N qual scope f cdv A outer s H E) body t ∧ t { nx := fun _ H' => Q .non H', rt := Q } (start N vs) H) :
    FnOk P w K mg base CX c (k + 1) f (PySem.W.fnOf name qual params body scope dV kV doc pm an cdv ct) ps sp := by
  refine ⟨len, fun A outer s H args us vs Q E hx0 hca hd0 hh0 hr e0 hb r hsp => ?_⟩
  obtain ⟨hx, hcx, hd, hh⟩ : ∃ hx : Option (Addr × Obj), (c = true → hx = none) ∧ HdOk hx A ∧ HxOk hx H := by
    cases c with
    | true => exact ⟨none, fun _ => rfl, .inl (hca rfl), (fun _ _ z => nomatch z)⟩
    | false => exact ⟨hx0, (fun z => nomatch z), hd0, hh0⟩
  have hl := len _ _ _ _ hsp
  have KX : K.In s.heap := e0.mod.kin.keeps fun b o e => (e0.bs b o e).1
  have lim : s.heap.NoLimit := e0.mod.nolimit.keeps fun b o e => (e0.bs b o e).1
  have hkind : ∀ y ∈ ps.zip us, scope.names.lookup y.1 = some .local ∨ (scope.names.lookup y.1 = some .cell ∧ ((cellsFrom (s.heap.objs.size + 1) scope.names []).lookup y.1).isSome = true) := fun ⟨n, v⟩ hy => by
    rcases S.par n (List.of_mem_zip hy).1 with q | q
    · exact .inl q
    · exact .inr ⟨q, PySem.W.cellsFrom_some _ _ _ (.inl q)⟩
  refine codeAny_call_function hr.depth (KX _ _ lk) rfl S.co S.gen rfl (PySem.W.codeRec_of KX hcd) (hb _ _ _ _ ?_)
  refine wpAny_newFunctionEnv_cells S.kind hkind fun env he s1 x => ?_
  subst he
  refine ⟨lim.keeps x.toInCall.keep, codeAny_func ?_⟩
  obtain ⟨t, ht, hq⟩ := hbody A outer s H vs Q E hx hcx hh (hr.deeper _) hsp
  have I : Inv (cxOf CX P w K mg base c hx N qual scope f cdv A outer s H E) [] (start N vs) H s1 := inv_start S hca hd hh e0 hl r x
  refine wpAny_mono (ht [] s1 (start N vs) H _ I hq) (fun fl s' hs => ?_) fun e s' hs => hs
  have fin : ∀ {σ' : St} {H' : Hp} {v : V} {u : Value}, Inv (cxOf CX P w K mg base c hx N qual scope f cdv A outer s H E) [] σ' H' s' → RelV v u → Q v H' → CE outer P w H s Q u s' :=
    fun {σ' H' v u} J rv q => ⟨v, H', J.os, J.bare, J.base, J.hok, rv, q⟩
  cases fl with
  | ret u =>
    obtain ⟨v, σ', H', J, rv, q⟩ := hs
    exact fin J rv q
  | next =>
    obtain ⟨σ', H', J, q⟩ := hs
    exact fin (v := V.non) (u := Value.none) J rfl q
  | brk =>
    obtain ⟨_, _, _, q⟩ := hs
    exact False.elim q
  | cont =>
    obtain ⟨_, _, _, q⟩ := hs
    exact False.elim q
end L2
namespace L2
open PySem PySem.Spec PyProof.Rows
section
variable {X : Cx} {x : Str} {p pos : Pos} {e : Expr} {es : List Expr} {t : TA} {id T : String} {r : List V → Hp → VK → Prop}
noncomputable def tCB (r : List V → Hp → VK → Prop) (t : TA) : TE := fun σ H Q => t σ H fun vs H1 => r vs H1 Q
theorem pe_callB (hc : CallR X (.builtin id) r) (hg : Gl X x) (hm : X.mg x = none) (hv : bootBuiltins x = some (.builtin id)) (ha : PA X (e :: es) t) (hn : x ≠ "__name__" := by decide) (hdb : (x == ("__debug__" : Str)) = false := by decide)
    (he : starEach (e :: es) X.env = (false, eval e X.env) :: starEach es X.env := by rfl) (hpl : (backTo pos (starEach es X.env)).any (·.1) = false := by rfl) : PE X (.Call (.Name x p) (e :: es) [] pos) (tCB r t) := by
  constructor
  intro pins s σ H Q I h
  refine wpAny_Call_Name_kw (ld_blt I hg hm hv ?_ hn hdb)
  exact PyProof.Rows.callWith_builtin1 (thn (ha pos pins s σ H _ I h) fun us s1 ⟨vs, H1, I1, r1, q1⟩ => hc pins s1 σ H1 vs us Q I1 r1 q1) he hpl
theorem pe_callTy (hc : CallR X (.type T) r) (hg : Gl X x) (hm : X.mg x = none) (hv : bootBuiltins x = some (.type T)) (ha : PA X (e :: es) t) (hn : x ≠ "__name__" := by decide) (hdb : (x == ("__debug__" : Str)) = false := by decide)
    (he : starEach (e :: es) X.env = (false, eval e X.env) :: starEach es X.env := by rfl) (hpl : (backTo pos (starEach es X.env)).any (·.1) = false := by rfl) : PE X (.Call (.Name x p) (e :: es) [] pos) (tCB r t) := by
  constructor
  intro pins s σ H Q I h
  refine wpAny_Call_Name_kw (ld_blt I hg hm hv ?_ hn hdb)
  exact PyProof.Rows.callWith_type1 (thn (ha pos pins s σ H _ I h) fun us s1 ⟨vs, H1, I1, r1, q1⟩ => hc pins s1 σ H1 vs us Q I1 r1 q1) he hpl
end
end L2
namespace HT
open PySem PyProof.Rows
noncomputable def lexLt : List Int → List Int → Bool
  | [], [] => false
  | [], _ :: _ => true
  | _ :: _, [] => false
  | x :: xs, y :: ys => if x = y then lexLt xs ys else decide (x < y)
section
open PySem.SeqAt
open PySem.AutoSeq1 (wpAny_loadPart')
open PySem.MeetsSeq PySem.MeetsSeq2 PySem.MeetsSeq3
end
section
variable {prog : Program} {w : World} {A : Around} {E : Value → Shared → Prop} {s : Shared}
noncomputable def sIx (n d : Nat) : Option Int → Nat
  | none => d
  | some v => if v < 0 then (v + (n : Int)).toNat else min v.toNat n
end
end HT
namespace L2
open PySem PySem.Spec PyProof.Rows
noncomputable abbrev TO := St → Hp → (Option Int → Hp → Prop) → Prop
structure PO (X : Cx) (e : Option Expr) (t : TO) : Prop where
  run : ∀ (pins : List (Addr × Obj)) (s : Shared) (σ : St) (H : Hp) (Q : Option Int → Hp → Prop), Inv X pins σ H s → t σ H Q →
    wpAny (model X.prog X.w) X.A (evalPart e X.env) (fun u s' => ∃ o H', Inv X pins σ H' s' ∧ IsPart u o ∧ Q o H') X.xe s
instance {X : Cx} {e : Option Expr} {t : TO} : CoeFun (PO X e t) (fun _ => ∀ (pins : List (Addr × Obj)) (s : Shared) (σ : St) (H : Hp) (Q : Option Int → Hp → Prop), Inv X pins σ H s → t σ H Q →
    wpAny (model X.prog X.w) X.A (evalPart e X.env) (fun u s' => ∃ o H', Inv X pins σ H' s' ∧ IsPart u o ∧ Q o H') X.xe s) := ⟨fun h => h.run⟩
noncomputable def tNoPart : TO := fun _ H Q => Q none H
noncomputable def tPart (t : TE) : TO := fun σ H Q => t σ H fun x H1 => ∃ i, x = .int i ∧ Q (some i) H1
section
variable {X : Cx} {e : Expr} {te : TE} {lo hi : Option Expr} {tl th : TO} {pos p2 : Pos}
theorem po_none : PO X none tNoPart := by
  constructor
  intro pins s σ H Q I h
  rw [evalPart_none]
  exact wpAny_pure ⟨none, H, I, .none, h⟩
theorem po_some (h : PE X e te) : PO X (some e) (tPart te) := by
  constructor
  intro pins s σ H Q I hw
  rw [evalPart_some]
  refine thn (h pins s σ H _ I hw) fun u s1 ⟨x, H1, I1, r1, q1⟩ => ?_
  obtain ⟨i, rfl, q⟩ := q1
  obtain ⟨t, rfl⟩ := r1
  exact ⟨some i, H1, I1, .int i t, q⟩
noncomputable def SlR (X : Cx) (r : V → Option Int → Option Int → Hp → VK → Prop) : Prop :=
  ∀ (pins : List (Addr × Obj)) (s : Shared) (σ : St) (H : Hp) (x : V) (v vl vu : Value) (lo hi : Option Int) (sl : Addr) (Q : VK), Inv X pins σ H s → RelV x v → s.heap.IsSliceOf sl vl vu .none → IsPart vl lo → IsPart vu hi → r x lo hi H Q →
    ∃ T id, typeLookup (.type T) "__getitem__" = pure (some (.builtin id)) ∧ s.TypeIs v T ∧ wpAny (model X.prog X.w) X.A (getItem v (.ref sl)) (EP X pins σ Q) X.xe s
noncomputable def tSl (r : V → Option Int → Option Int → Hp → VK → Prop) (te : TE) (tl th : TO) : TE := fun σ H Q => te σ H fun x H1 => tl σ H1 fun l H2 => th σ H2 fun u H3 => r x l u H3 Q
theorem pe_slice {r : V → Option Int → Option Int → Hp → VK → Prop} (hr : SlR X r) (he : PE X e te) (hl : PO X lo tl) (hu : PO X hi th) : PE X (.Subscript e (.Slice lo hi none p2) pos) (tSl r te tl th) := by
  constructor
  intro pins s σ H Q I h
  refine Subscript_ (thn (he pins s σ H _ I h) fun v s1 ⟨x, H1, I1, r1, q1⟩ => ?_)
  refine wpAny_Slice (thn (hl pins s1 σ H1 _ I1 q1) fun vl s2 ⟨l, H2, I2, pl, q2⟩ => thn (hu pins s2 σ H2 _ I2 q2) fun vu s3 ⟨u, H3, I3, pu, q3⟩ => ?_)
  rw [evalPart_none]
  refine wpAny_pure ?_
  have I4 : Inv X pins σ H3 { s3 with heap := s3.heap.push { cls := .type "slice", data := .fields #[vl, vu, .none] } } := I3.kept (t' := s3.toks) fun b ob q => Heap.get?_push_of_some _ q
  obtain ⟨T, id, hT, ht, hg⟩ := hr pins { s3 with heap := s3.heap.push { cls := .type "slice", data := .fields #[vl, vu, .none] } } σ H3 x v vl vu l u s3.heap.objs.size Q I4 r1 (Heap.IsSliceOf.new ..) pl pu q3
  show wpAny (model X.prog X.w) X.A (subscriptTail e (.Slice lo hi none p2) v (.ref s3.heap.objs.size)) (EP X pins σ Q) X.xe { s3 with heap := s3.heap.push { cls := .type "slice", data := .fields #[vl, vu, .none] } }
  exact tail_any (ops := [.ref s3.heap.objs.size, v]) ht hT hg (by with_unfolding_all rfl)
noncomputable def cutV (xs : List V) (lo hi : Option Int) : List V := (xs.drop (HT.sIx xs.length 0 lo)).take (HT.sIx xs.length xs.length hi - HT.sIx xs.length 0 lo)
theorem cutV_length (xs : List V) (lo hi : Option Int) : (cutV xs lo hi).length ≤ xs.length := by
  unfold cutV
  rw [List.length_take, List.length_drop]
  omega
noncomputable def rSlT (K : PySem.W.Frag) : V → Option Int → Option Int → Hp → VK → Prop := fun x lo hi H Q => ∃ a xs, x = .ref a ∧ SqT K H a xs ∧
  ¬ (HT.sIx xs.length 0 lo = 0 ∧ HT.sIx xs.length xs.length hi = xs.length) ∧ ∀ p, H p = none → Q (.ref p) (upd H p (.tup (cutV xs lo hi)))
noncomputable def rLtT (K : PySem.W.Frag) : R2 := fun x y H Q => ∃ a b ns ms, x = .ref a ∧ y = .ref b ∧ SqT K H a (ns.map V.int) ∧ SqT K H b (ms.map V.int) ∧ Q (.bl (HT.lexLt ns ms)) H
noncomputable def rCatT (K : PySem.W.Frag) : R2 := fun x y H Q => ∃ a b xs ys, x = .ref a ∧ y = .ref b ∧ SqT K H a xs ∧ SqT K H b ys ∧ xs ≠ [] ∧ xs.length + ys.length ≤ sizeLine ∧
  (ys = [] → Q (.ref a) H) ∧ (ys ≠ [] → ∀ p, H p = none → Q (.ref p) (upd H p (.tup (xs ++ ys))))
end
end L2
namespace L2
open PySem PySem.Spec PyProof.Rows
noncomputable def ixN (n : Nat) (i : Int) : Option Nat := if 0 ≤ i then (if i < n then some i.toNat else none) else if -(n : Int) ≤ i then some (i + n).toNat else none
noncomputable def atI {α : Type} (xs : List α) (i : Int) : Option α := (ixN xs.length i).bind fun j => xs[j]?
theorem ixN_seq {n : Nat} {i : Int} {j : Nat} (h : ixN n i = some j) : seqIndex? i n = some j ∧ j < n ∧ -(n : Int) ≤ i ∧ i < n := by
  unfold ixN at h
  by_cases h0 : 0 ≤ i
  · rw [if_pos h0] at h
    by_cases h1 : i < n
    · rw [if_pos h1] at h
      have e : i.toNat = j := Option.some.inj h
      exact ⟨by rw [seqIndex_of h0 h1, e], by omega, by omega, h1⟩
    · rw [if_neg h1] at h; cases h
  · rw [if_neg h0] at h
    by_cases h1 : -(n : Int) ≤ i
    · rw [if_pos h1] at h
      have e : (i + n).toNat = j := Option.some.inj h
      exact ⟨by rw [seqIndex_neg (by omega) h1, e], by omega, h1, by omega⟩
    · rw [if_neg h1] at h; cases h
theorem atI_get {α : Type} {xs : List α} {i : Int} {v : α} (h : atI xs i = some v) : ∃ j, seqIndex? i xs.length = some j ∧ xs[j]? = some v ∧ j < xs.length ∧ -(xs.length : Int) ≤ i ∧ i < xs.length := by
  unfold atI at h
  cases e : ixN xs.length i with
  | none => rw [e] at h; cases h
  | some j =>
    rw [e] at h
    obtain ⟨h1, h2, h3, h4⟩ := ixN_seq e
    exact ⟨j, h1, h, h2, h3, h4⟩
theorem atI_nat {α : Type} {xs : List α} {j : Nat} {v : α} (h : xs[j]? = some v) : atI xs (j : Int) = some v := by
  have hj : j < xs.length := (List.getElem?_eq_some_iff.mp h).1
  have e : ixN xs.length (j : Int) = some j := by
    unfold ixN
    rw [if_pos (by omega), if_pos (by omega)]; simp
  unfold atI; rw [e]; exact h
noncomputable def PlainIx (b : Expr) : Prop := ∀ o i, subscripted b false o i = operate [o, i] (getItem o i)
noncomputable def IxR (X : Cx) (r : R2) : Prop :=
  ∀ (value slice : Expr) (pins : List (Addr × Obj)) (s : Shared) (σ : St) (H : Hp) (x y : V) (v u : Value) (Q : VK), Inv X pins σ H s → RelV x v → RelV y u → r x y H Q →
    subscripted slice false v u = operate [v, u] (getItem v u) → wpAny (model X.prog X.w) X.A (subscriptTail value slice v u) (EP X pins σ Q) X.xe s
noncomputable def MtR (X : Cx) (id : String) (r : V → List V → Hp → VK → Prop) : Prop :=
  ∀ (pins : List (Addr × Obj)) (s : Shared) (σ : St) (H : Hp) (x : V) (xs : List V) (v : Value) (us : List Value) (Q : VK), Inv X pins σ H s → RelV x v → Vals xs us → r x xs H Q →
    wpAny (model X.prog X.w) X.A (call (.builtin id) (v :: us)) (EP X pins σ Q) X.xe s
section
variable {X : Cx} {a b : Expr} {ta tb : TE} {pos : Pos}
theorem pe_ix {r : R2} (hr : IxR X r) (ha : PE X a ta) (hb : PE X b tb) (hs : PlainIx b) : PE X (.Subscript a b pos) (tOp r ta tb) := by
  constructor
  intro pins s σ H Q I h
  exact Subscript_ (binT ha hb I h fun v u s2 x y H2 I2 rx ry q => hr a b pins s2 σ H2 x y v u Q I2 rx ry q (hs _ _))
noncomputable def rIxL (K : PySem.W.Frag) : R2 := fun x y H Q => ∃ p xs i v, x = .ref p ∧ y = .int i ∧ SqL K H p xs ∧ atI xs i = some v ∧ Q v H
noncomputable def rIxT (K : PySem.W.Frag) : R2 := fun x y H Q => ∃ p xs i v, x = .ref p ∧ y = .int i ∧ SqT K H p xs ∧ atI xs i = some v ∧ Q v H
noncomputable def rIxS : R2 := fun x y H Q => ∃ z i c, x = .str z ∧ y = .int i ∧ z.length ≤ sizeLine ∧ atI z.cps.toList i = some c ∧ Q (.str ⟨#[c]⟩) H
theorem ix_list : IxR X (rIxL X.K) := by
  intro value slice pins s σ H x y v u Q I rx ry h hs
  obtain ⟨p, xs, i, z, rfl, rfl, hq, he, q⟩ := h
  cases rx
  obtain ⟨t, rfl⟩ := ry
  obtain ⟨its, r, pl, hz⟩ := I.list hq
  obtain ⟨j, h1, h2, h3, h4, h5⟩ := atI_get he
  obtain ⟨w, ew, rw'⟩ := r.get h2
  have hl := r.length
  have hn := line63
  have fin : EP X pins σ Q w s := ⟨z, H, I, rw', q⟩
  by_cases h0 : 0 ≤ i
  · have hj : i.toNat = j := by
      rw [seqIndex_of h0 h5] at h1
      exact Option.some.inj h1
    exact item_listR pl.isList h0 (by omega) (by rw [hj]; simpa using ew) fin hs
  · have hj : (i + (its.toArray.size : Int)).toNat = j := by
      rw [seqIndex_neg (by omega) h4] at h1
      rw [List.size_toArray, ← hl]
      exact Option.some.inj h1
    exact subscriptTail_builtinR (x := w) pl.isList.typeIs slot_list_getitem.lookup
      (wpAny_getItem_list_neg (Q := fun r s' => r = w ∧ EP X pins σ Q r s') pl.isList (by omega) (by rw [List.size_toArray] <;> omega) (by omega) (by rw [hj]; simpa using ew) ⟨rfl, fin⟩) hs
theorem ix_tup : IxR X (rIxT X.K) := by
  intro value slice pins s σ H x y v u Q I rx ry h hs
  obtain ⟨p, xs, i, z, rfl, rfl, hq, he, q⟩ := h
  cases rx
  obtain ⟨t, rfl⟩ := ry
  obtain ⟨its, r, pl, hz⟩ := I.tuple hq
  obtain ⟨j, h1, h2, h3, h4, h5⟩ := atI_get he
  obtain ⟨w, ew, rw'⟩ := r.get h2
  have hl := r.length
  have hn := line63
  have fin : EP X pins σ Q w s := ⟨z, H, I, rw', q⟩
  exact subscriptTail_builtinR (x := w) pl.typeIs slot_tuple_getitem.lookup
    (getItem_tuple (j := j) (Q := fun r s' => r = w ∧ EP X pins σ Q r s') pl (by omega) (by omega) (by rw [List.size_toArray, ← hl]; exact h1) (by simpa using ew) ⟨rfl, fin⟩) hs
noncomputable def rIx (K : PySem.W.Frag) : R2 := fun x y H Q => rIxL K x y H Q ∨ rIxT K x y H Q ∨ rIxS x y H Q
theorem mapSeq_set (its : List Value) (n j : Nat) (u : Value) : Obj.mapSeq (·.setIfInBounds j u) { cls := .type "list", data := .seq its.toArray n } = { cls := .type "list", data := .seq (its.set j u).toArray n } := by
  simp [Obj.mapSeq]
theorem Inv.lst {pins : List (Addr × Obj)} {σ : St} {H : Hp} {s : Shared} {p : Addr} {xs : List V} (I : Inv X pins σ H s) (h : H p = some (.lst xs)) :
    ∃ (its : List Value) (n : Nat), Vals xs its ∧ s.heap.get? p = some { cls := .type "list", data := .seq its.toArray n } ∧ xs.length ≤ sizeLine := by
  obtain ⟨z, its, n, r, e⟩ := I.hok p _ h
  exact ⟨its, n, r, e, z⟩
theorem Inv.lstUpd {pins : List (Addr × Obj)} {σ : St} {H : Hp} {s : Shared} {p : Addr} {xs ys : List V} {its its' : List Value} {n n' : Nat} {f : Obj → Obj} (I : Inv X pins σ H s) (h : H p = some (.lst xs))
    (ho : s.heap.get? p = some { cls := .type "list", data := .seq its.toArray n }) (hf : f { cls := .type "list", data := .seq its.toArray n } = { cls := .type "list", data := .seq its'.toArray n' }) (r : Vals ys its') (hz : ys.length ≤ sizeLine) (t : Nat) :
    Inv X pins σ (upd H p (.lst ys)) { s with heap := s.heap.update p f, toks := t } := by
  have e : (s.heap.update p f).get? p = some { cls := .type "list", data := .seq its'.toArray n' } := by
    rw [Heap.get?_update_self f ho (by rw [hf] <;> rfl), hf]
  refine I.write (x := p) (e := p) (by rw [h]; trivial) (.inl rfl) (fun b u hb q => (Heap.get?_update_other _ _ (Ne.symm hb)).trans q) ⟨_, e⟩ ?_
  exact ⟨hz, its', n', r, e⟩
noncomputable def rSetL : V → V → V → Hp → (Hp → Prop) → Prop := fun o i v H Q => ∃ p xs k j, o = .ref p ∧ i = .int k ∧ H p = some (.lst xs) ∧ ixN xs.length k = some j ∧ Q (upd H p (.lst (xs.set j v)))
theorem set_list : PSet X rSetL := by
  intro pins s σ H o i v ov iv u Q I ro ri rv h
  obtain ⟨p, xs, k, j, rfl, rfl, hp, hj, q⟩ := h
  cases ro
  obtain ⟨t, rfl⟩ := ri
  obtain ⟨its, n, r, ho, hz⟩ := I.lst hp
  obtain ⟨h1, h2, h3, h4⟩ := ixN_seq hj
  have hl := r.length
  have hn := line63
  have I' : Inv X pins σ (upd H p (.lst (xs.set j v))) { s with heap := s.heap.update p (Obj.mapSeq (·.setIfInBounds j u)) } :=
    I.lstUpd hp ho (mapSeq_set its n j u) (r.set rv j) (by rw [List.length_set]; exact hz) s.toks
  by_cases h0 : 0 ≤ k
  · have hk : k.toNat = j := by
      rw [seqIndex_of h0 h4] at h1
      exact Option.some.inj h1
    exact PySem.W.ki_setAt ho h0 (by omega) (by rw [List.size_toArray, ← hl]; exact h4) (by rw [hk]; exact ⟨_, I', q⟩)
  · have hk : (k + (its.toArray.size : Int)).toNat = j := by
      rw [seqIndex_neg (by omega) h3] at h1
      rw [List.size_toArray, ← hl]
      exact Option.some.inj h1
    exact PySem.W.ki_setBack ho (by omega) (by rw [List.size_toArray, ← hl]; exact h3) (by omega) (by rw [hk]; exact ⟨_, I', q⟩)
theorem slice_bounds (lo hi : Option Int) (n : Nat) : (sliceBounds lo hi none n).1 = ((HT.sIx n 0 lo : Nat) : Int) ∧ (sliceBounds lo hi none n).2.1 = ((HT.sIx n n hi : Nat) : Int) ∧ (sliceBounds lo hi none n).2.2 = 1 := by
  refine ⟨?_, ?_, rfl⟩
  · cases lo with
    | none => simp [sliceBounds, HT.sIx]
    | some i =>
      simp only [sliceBounds, HT.sIx, Option.getD_none, show (1 : Int) > 0 by decide, if_true]
      by_cases h : i < 0
      · simp only [h, if_true] <;> omega
      · simp only [h, if_false] <;> omega
  · cases hi with
    | none => simp [sliceBounds, HT.sIx]
    | some i =>
      simp only [sliceBounds, HT.sIx, Option.getD_none, show (1 : Int) > 0 by decide, if_true]
      by_cases h : i < 0
      · simp only [h, if_true] <;> omega
      · simp only [h, if_false] <;> omega
theorem slicePick_cut (its : List Value) (lo hi : Option Int) : slicePick its.toArray lo hi none = ((its.drop (HT.sIx its.length 0 lo)).take (HT.sIx its.length its.length hi - HT.sIx its.length 0 lo)).toArray := by
  obtain ⟨h1, h2, h3⟩ := slice_bounds lo hi its.toArray.size
  unfold slicePick
  rw [h1, h2, h3]
  simp only [sliceRange_one, pick_run, List.size_toArray] <;> rfl
noncomputable def rSlL (K : PySem.W.Frag) : V → Option Int → Option Int → Hp → VK → Prop := fun x lo hi H Q => ∃ a xs, x = .ref a ∧ SqL K H a xs ∧ ∀ p, H p = none → Q (.ref p) (upd H p (.lst (cutV xs lo hi)))
theorem sl_list : SlR X (rSlL X.K) := by
  intro pins s σ H x v vl vu lo hi sl Q I rx hs pl pu h
  obtain ⟨a, xs, rfl, hx, q⟩ := h
  cases rx
  obtain ⟨its, r, ht, hz⟩ := I.list hx
  have hlen := r.length
  refine ⟨"list", _, slot_list_getitem.lookup, ht.isList.typeIs, ?_⟩
  refine wpAny_getItem_list_slice ht.isList hs pl pu .none (by simp) ?_ (by rw [List.size_toArray] <;> omega)
  rw [slicePick_cut, ← hlen]
  refine ⟨.ref s.heap.objs.size, _, I.laid (t' := s.toks) (o := .lst (cutV xs lo hi)) (fun b ob q => Heap.get?_push_of_some _ q) (Nat.le_refl _) ?_, rfl, q _ (I.hok.fresh (Nat.le_refl _))⟩
  exact ⟨Nat.le_trans (cutV_length xs lo hi) hz, _, 0, (r.drop (HT.sIx xs.length 0 lo)).take (HT.sIx xs.length xs.length hi - HT.sIx xs.length 0 lo), Heap.get?_push_size _ rfl⟩
noncomputable def flatV : V → Bool
  | .non => true
  | .bl _ => true
  | .int _ => true
  | .str _ => true
  | _ => false
noncomputable def eqV : V → V → Bool
  | .non, .non => true
  | .bl a, .bl b => a == b
  | .bl a, .int b => (if a then 1 else 0) == b
  | .int a, .bl b => a == (if b then 1 else 0)
  | .int a, .int b => a == b
  | .str a, .str b => a == b
  | _, _ => false
theorem eqAt_V {A : Around} {s : Shared} {y x : V} {u v : Value} (ry : RelV y u) (rx : RelV x v) (fy : flatV y = true) (fx : flatV x = true) : SeqAt.EqAt A s u v (eqV y x) := by
  cases y with
  | non =>
    cases ry
    cases x with
    | non => cases rx; exact SeqAt.EqAt.same _
    | bl b => cases rx; exact SeqAt.EqAt.none_bool b
    | int b => obtain ⟨t, rfl⟩ := rx; exact SeqAt.EqAt.none_int b t
    | str b => obtain ⟨t, rfl⟩ := rx; exact SeqAt.EqAt.none_str b t
    | _ => exact absurd (show false = true from fx) Bool.false_ne_true
  | bl a =>
    cases ry
    cases x with
    | non => cases rx; exact SeqAt.EqAt.bool_none a
    | bl b => cases rx; exact SeqAt.EqAt.bool_bool a b
    | int b => obtain ⟨t, rfl⟩ := rx; exact SeqAt.EqAt.bool_int a b t
    | str b => obtain ⟨t, rfl⟩ := rx; exact SeqAt.EqAt.bool_str a b t
    | _ => exact absurd (show false = true from fx) Bool.false_ne_true
  | int a =>
    obtain ⟨t', rfl⟩ := ry
    cases x with
    | non => cases rx; exact SeqAt.EqAt.int_none a t'
    | bl b => cases rx; exact SeqAt.EqAt.int_bool a t' b
    | int b => obtain ⟨t, rfl⟩ := rx; exact SeqAt.EqAt.int_int a t' b t
    | str b => obtain ⟨t, rfl⟩ := rx; exact SeqAt.EqAt.int_str a t' b t
    | _ => exact absurd (show false = true from fx) Bool.false_ne_true
  | str a =>
    obtain ⟨t', rfl⟩ := ry
    cases x with
    | non => cases rx; exact SeqAt.EqAt.str_none a t'
    | bl b => cases rx; exact SeqAt.EqAt.str_bool a t' b
    | int b => obtain ⟨t, rfl⟩ := rx; exact SeqAt.EqAt.str_int a t' b t
    | str b => obtain ⟨t, rfl⟩ := rx; exact SeqAt.EqAt.str_str a t' b t
    | _ => exact absurd (show false = true from fx) Bool.false_ne_true
  | _ => exact absurd (show false = true from fy) Bool.false_ne_true
noncomputable def eqU (x : V) (u : Value) : Bool := match u with
  | .none => eqV .non x
  | .bool b => eqV (.bl b) x
  | .int i _ => eqV (.int i) x
  | .str z _ => eqV (.str z) x
  | _ => false
theorem eqU_of {x y : V} {u : Value} (r : RelV y u) (f : flatV y = true) : eqU x u = eqV y x := by
  cases y with
  | non => cases r; rfl
  | bl b => cases r; rfl
  | int i => obtain ⟨t, rfl⟩ := r; rfl
  | str z => obtain ⟨t, rfl⟩ := r; rfl
  | _ => exact absurd (show false = true from f) Bool.false_ne_true
theorem mem_eqAt {A : Around} {s : Shared} {x : V} {v : Value} (rx : RelV x v) (fx : flatV x = true) : ∀ {xs : List V} {us : List Value}, Vals xs us → xs.all flatV = true → ∀ u ∈ us, SeqAt.EqAt A s u v (eqU x u)
  | _, _, .nil, _ => fun u hu => by cases hu
  | y :: xs, u :: us, .cons r t, f => fun u' hu => by
    rw [List.all_cons, Bool.and_eq_true] at f
    rcases List.mem_cons.mp hu with rfl | hu
    · rw [eqU_of r f.1]; exact eqAt_V r rx f.1 fx
    · exact mem_eqAt rx fx t f.2 u' hu
noncomputable def inV (x : V) (xs : List V) : Bool := xs.any fun y => eqV y x
noncomputable def rIn (K : PySem.W.Frag) (neg : Bool) : R2 := fun x y H Q => ∃ p xs, y = .ref p ∧ (SqL K H p xs ∨ SqT K H p xs) ∧ flatV x = true ∧ xs.all flatV = true ∧ Q (.bl (if neg then !inV x xs else inV x xs)) H
theorem call_len_seq : CallR X (.builtin "len") (fun xs H Q => ∃ p ys, xs = [.ref p] ∧ (SqL X.K H p ys ∨ SqT X.K H p ys) ∧ Q (.int ys.length) H) := by
  intro pins s σ H xs us Q I r h
  obtain ⟨p, ys, rfl, hq, q⟩ := h
  obtain ⟨u, rfl, rx⟩ := vals1 r
  cases rx
  have hn := line63
  rcases hq with hq | hq
  · obtain ⟨its, r', pl, hz⟩ := I.list hq
    have hlen := r'.length
    exact Calls.call_len_list pl.isList (by simp only [List.size_toArray] <;> omega) ⟨.int ys.length, H, I.tok _, ⟨s.toks + 1, by rw [List.size_toArray, hlen]⟩, q⟩
  · obtain ⟨its, r', pl, hz⟩ := I.tuple hq
    have hlen := r'.length
    exact len_tuple pl (by simp only [List.size_toArray] <;> omega) ⟨.int ys.length, H, I.tok _, ⟨s.toks + 1, by rw [List.size_toArray, hlen]⟩, q⟩
theorem call_tuple_of : CallR X (.type "tuple") (fun xs H Q => ∃ p ys, xs = [.ref p] ∧ ((SqL X.K H p ys ∧ ∀ l, H l = none → Q (.ref l) (upd H l (.tup ys))) ∨ (SqT X.K H p ys ∧ Q (.ref p) H))) := by
  intro pins s σ H xs us Q I r h
  obtain ⟨p, ys, rfl, h⟩ := h
  obtain ⟨u, rfl, rx⟩ := vals1 r
  cases rx
  rcases h with ⟨hq, q⟩ | ⟨hq, q⟩
  · obtain ⟨its, r', pl, hz⟩ := I.list hq
    have hlen := r'.length
    refine call_tuple_list pl.isList (fun h' kp => ?_) (by simp only [List.size_toArray] <;> omega)
    have I1 : Inv X pins σ H { s with heap := h' } := I.kept (t' := s.toks) kp
    have I2 : Inv X pins σ (upd H h'.objs.size (.tup ys)) { s with heap := h'.push { cls := .type "tuple", data := .seq its.toArray } } :=
      I1.laid (t' := s.toks) (fun b o e => Heap.get?_push_of_some _ e) (Nat.le_refl _) (show ObjOk X.prog X.w _ _ _ (.tup ys) from ⟨hz, its, r', IsTup.new _ _⟩)
    exact ⟨.ref h'.objs.size, _, I2, rfl, q _ (I1.hok.fresh (Nat.le_refl _))⟩
  · obtain ⟨its, r', pl, hz⟩ := I.tuple hq
    exact call_tuple_same pl ⟨.ref p, H, I, rfl, q⟩
noncomputable def tyV (K : PySem.W.Frag) (T : String) (x : V) (H : Hp) : Prop := match x with
  | .str _ => T = "str"
  | .int _ => T = "int"
  | .ref p => (T = "list" ∧ ∃ xs, SqL K H p xs) ∨ (T = "tuple" ∧ ∃ o, K.lookup p = some o ∧ o.cls = .type "tuple" ∧ o.dict = none) ∨
      (T = "dict" ∧ ((∃ kvs, H p = some (.dK kvs)) ∨ ∃ kvs, H p = some (.dT kvs))) ∨ (T = "set" ∧ ∃ S n, H p = some (.set S n))
  | _ => False
theorem tyV_is {pins : List (Addr × Obj)} {σ : St} {H : Hp} {s : Shared} {T : String} {x : V} {v : Value} (I : Inv X pins σ H s) (r : RelV x v) (ty : tyV X.K T x H) :
    s.TypeIs v T ∧ ∀ a, v = .ref a → ∃ ob, s.heap.get? a = some ob ∧ ob.dict = none := by
  cases x with
  | str z =>
    obtain ⟨t, rfl⟩ := r
    cases (show T = "str" from ty)
    exact ⟨typeIs_str s z t, fun _ e => nomatch e⟩
  | int i =>
    obtain ⟨t, rfl⟩ := r
    cases (show T = "int" from ty)
    exact ⟨typeIs_int s i t, fun _ e => nomatch e⟩
  | ref p =>
    cases r
    rcases ty with ⟨rfl, xs, hq⟩ | ⟨rfl, o, hk, hc, hd⟩ | ⟨rfl, hk⟩ | ⟨rfl, S, n, hk⟩
    · obtain ⟨its, _, pl, _⟩ := I.list hq
      refine ⟨pl.isList.typeIs, fun a e => ?_⟩
      cases e
      obtain ⟨o, n, e, c, hd, _⟩ := pl
      exact ⟨o, e, hd⟩
    · refine ⟨⟨o, I.kIn p o hk, hc⟩, fun a e => ?_⟩
      cases e
      exact ⟨o, I.kIn _ o hk, hd⟩
    · have z : ∃ o, s.heap.get? p = some o ∧ o.ExactDict := by
        rcases hk with ⟨kvs, hk⟩ | ⟨kvs, hk⟩
        · obtain ⟨_, _, _, _, o, _, _, e, ex, _⟩ := I.hok p _ hk
          exact ⟨o, e, ex⟩
        · obtain ⟨_, _, _, _, o, _, _, e, ex, _⟩ := I.hok p _ hk
          exact ⟨o, e, ex⟩
      obtain ⟨o, e, ex⟩ := z
      refine ⟨⟨o, e, ex.1⟩, fun a e2 => ?_⟩
      cases e2
      exact ⟨o, e, ex.2.1⟩
    · obtain ⟨o, _, _, _, e, ex, _⟩ := I.hok p _ hk
      refine ⟨⟨o, e, ex.1⟩, fun a e2 => ?_⟩
      cases e2
      exact ⟨o, e, ex.2.1⟩
  | _ => exact False.elim ty
noncomputable def tBM0 (K : PySem.W.Frag) (T : String) (r : V → List V → Hp → VK → Prop) (to : TE) : TE := fun σ H Q => to σ H fun x H1 => tyV K T x H1 ∧ r x [] H1 Q
noncomputable def tBM (K : PySem.W.Frag) (T : String) (r : V → List V → Hp → VK → Prop) (to : TE) (t : TA) : TE := fun σ H Q => to σ H fun x H1 => tyV K T x H1 ∧ t σ H1 fun xs H2 => r x xs H2 Q
variable {o e : Expr} {es : List Expr} {to : TE} {t : TA} {name : Str} {apos cpos : Pos} {T id : String} {r : V → List V → Hp → VK → Prop}
theorem pe_bm (pa : PlainAttrs T) (slot : Slot T name id) (hty : typeOf (.builtin id) = pure (.type "method_descriptor")) (hm : MtR X id r) (ho : PE X o to) (ha : PA X (e :: es) t)
    (hbase : attributeBase o name X.env (eval o X.env) = eval o X.env := by rfl)
    (hfew : ((backTo cpos (starEach (e :: es) X.env)).all (fun x => !x.1) && (backToKw cpos (keywordEach [] X.env)).all (fun x => x.1.isSome)
      && decide ((e :: es).length + ([] : List Keyword).length + (if ([] : List Keyword).isEmpty then 0 else 1) < 30)) = true := by rfl)
    (hline : (apos.endLine == cpos.line) = true := by rfl) (hs : starEach (e :: es) X.env = (false, eval e X.env) :: starEach es X.env := by rfl) (hplain : (backTo cpos (starEach es X.env)).any (·.1) = false := by rfl) :
    PE X (.Call (.Attribute o name apos) (e :: es) [] cpos) (tBM X.K T r to t) := by
  constructor
  intro pins s σ H Q I h
  refine wpAny_Call_method_late hbase hfew hline rfl (thn (ho pins s σ H _ I h) fun v s1 ⟨x, H1, I1, r1, ty, q1⟩ => ?_)
  obtain ⟨h1, h2⟩ := tyV_is I1 r1 ty
  refine ⟨T, id, pa, slot, hty, h1, h2, ?_⟩
  have hA := ha cpos pins s1 σ H1 _ I1 q1
  rw [hs] at hA ⊢
  refine Calls.callWith_builtin (by show (false || (backTo cpos (starEach es X.env)).any (·.1)) = false; rw [hplain] <;> rfl) (Calls.evalArgs_plain ?_)
  exact thn hA fun us s2 ⟨vs, H2, I2, r2, q2⟩ => hm pins s2 σ H2 x vs v us Q I2 r1 r2 q2
/- xs.append(e), list.index on a module's tuple .. are MtR facts of 06m -/
end
end L2
namespace L2
open PySem PySem.Spec PyProof.Rows
noncomputable def MtM (X : Cx) (id : String) (r : V → List V → Hp → VK → Prop) : Prop :=
  ∀ (pins : List (Addr × Obj)) (s : Shared) (σ : St) (H : Hp) (x : V) (xs : List V) (v : Value) (us : List Value) (Q : VK), Inv X pins σ H s → RelV x v → Vals xs us → r x xs H Q →
    wpAny (model X.prog X.w) X.A (call (.builtin id) (v :: us)) (EP X pins σ Q) X.xe s
theorem Vals.one : ∀ {x : V} {us : List Value}, Vals [x] us → ∃ u, us = [u] ∧ RelV x u
  | _, _, .cons r .nil => ⟨_, rfl, r⟩
theorem Vals.rep {xs : List V} {us : List Value} (h : Vals xs us) : ∀ k : Nat, Vals (List.replicate k xs).flatten (List.replicate k us).flatten
  | 0 => .nil
  | k + 1 => by
    rw [List.replicate_succ, List.replicate_succ, List.flatten_cons, List.flatten_cons]
    exact Vals.append h (Vals.rep h k)
theorem foldl_rep (its : List Value) : ∀ (k : Nat) (acc : List Value),
    List.foldl (fun x1 x2 => x1 ++ x2) acc.toArray (List.replicate k its.toArray) = (acc ++ (List.replicate k its).flatten).toArray
  | 0, acc => by simp
  | k + 1, acc => by
    have e : acc.toArray ++ its.toArray = (acc ++ its).toArray := by simp
    have e2 : (acc ++ its) ++ (List.replicate k its).flatten = acc ++ (List.replicate (k + 1) its).flatten := by
      rw [List.replicate_succ, List.flatten_cons, List.append_assoc]
    rw [← e2, ← foldl_rep its k (acc ++ its), ← e, List.replicate_succ, List.foldl_cons]
section
variable {X : Cx} {pins : List (Addr × Obj)} {σ : St} {H : Hp} {s : Shared} {l b : Addr} {xs ys zs : List V}
theorem Inv.lset {its its' : List Value} {n : Nat} {f : Array Value → Array Value} {t' : Nat} (I : Inv X pins σ H s) (hH : H l = some (.lst xs))
    (e : s.heap.get? l = some { cls := .type "list", data := .seq its.toArray n }) (hf : f its.toArray = its'.toArray) (hv : Vals ys its') (hz : ys.length ≤ sizeLine) :
    Inv X pins σ (upd H l (.lst ys)) { s with heap := s.heap.update l (Obj.mapSeq f), toks := t' } := by
  have q := PySem.IsL.update e f
  rw [hf] at q
  refine I.write (x := l) (e := l) (by rw [hH]; exact trivial) (.inl rfl) (fun b' u hb hu => (Heap.get?_update_other s.heap (Obj.mapSeq f) (Ne.symm hb)).trans hu) ⟨_, q⟩ ?_
  exact ⟨hz, its', _, hv, q⟩
theorem Inv.lnew {its : List Value} {t' : Nat} (I : Inv X pins σ H s) (hv : Vals ys its) (hz : ys.length ≤ sizeLine) :
    Inv X pins σ (upd H s.heap.objs.size (.lst ys)) { s with heap := s.heap.push { cls := .type "list", data := .seq its.toArray }, toks := t' } :=
  I.laid (fun _ _ q => Heap.get?_push_of_some _ q) (Nat.le_refl _) ⟨hz, its, 0, hv, Heap.get?_push_size _ rfl⟩
theorem Inv.fresh (I : Inv X pins σ H s) : H s.heap.objs.size = none := I.hok.fresh (Nat.le_refl _)
theorem Inv.lstM (I : Inv X pins σ H s) (hH : H l = some (.lst xs)) : xs.length ≤ sizeLine ∧ ∃ (its : List Value) (n : Nat), Vals xs its ∧ xs.length = its.length ∧ s.heap.get? l = some { cls := .type "list", data := .seq its.toArray n } := by
  obtain ⟨z, its, n, r, e⟩ := I.hok l _ hH
  exact ⟨z, its, n, r, r.length, e⟩
theorem notLongL {n : Nat} (h : n ≤ sizeLine) : Builtin.List.listTooLong n = false := by
  unfold Builtin.List.listTooLong
  exact decide_eq_false (by omega)
end
section
variable {X : Cx}
noncomputable def rAppend : V → List V → Hp → VK → Prop := fun x vs H Q => ∃ l xs y, x = .ref l ∧ vs = [y] ∧ H l = some (.lst xs) ∧ xs.length < sizeLine ∧ Q .non (upd H l (.lst (xs ++ [y])))
theorem mt_append : MtM X "list.append" rAppend := by
  intro pins s σ H x vs v us Q I rx rv h
  obtain ⟨l, xs, y, rfl, rfl, hH, hz, q⟩ := h
  cases rx
  obtain ⟨u, rfl, ru⟩ := rv.one
  obtain ⟨z, its, n, r, hl, e⟩ := I.lstM hH
  refine call_meets F.slot_list_append ⟨_, e, rfl⟩ F.entry_list_append (F.args_list_append_2 _ _) (PySem.list_append l its.toArray n u (by rw [List.size_toArray]; omega)) ⟨e, ?_⟩
  refine ⟨.non, _, I.lset (its' := its ++ [u]) hH e (by simp) (r.append (.cons ru .nil)) ?_, rfl, q⟩
  rw [List.length_append, List.length_singleton]
  omega
noncomputable def rExtend : V → List V → Hp → VK → Prop := fun x vs H Q => ∃ l b xs zs, x = .ref l ∧ vs = [.ref b] ∧ H l = some (.lst xs) ∧ H b = some (.lst zs) ∧ xs.length + zs.length ≤ sizeLine ∧ Q .non (upd H l (.lst (xs ++ zs)))
theorem mt_extend : MtM X "list.extend" rExtend := by
  intro pins s σ H x vs v us Q I rx rv h
  obtain ⟨l, b, xs, zs, rfl, rfl, hH, hB, hz, q⟩ := h
  cases rx
  obtain ⟨u, rfl, ru⟩ := rv.one
  cases ru
  obtain ⟨z, its, n, r, hl, e⟩ := I.lstM hH
  obtain ⟨z2, its2, n2, r2, hl2, e2⟩ := I.lstM hB
  have hsz : its.toArray.size + its2.toArray.size ≤ sizeLine := by rw [List.size_toArray, List.size_toArray]; omega
  have hlong : ¬ (!its.toArray.isEmpty && Builtin.List.listTooLong (its.toArray.size + its2.toArray.size)) = true := by
    rw [notLongL hsz, Bool.and_false]
    exact Bool.false_ne_true
  refine call_meets F.slot_list_extend ⟨_, e, rfl⟩ F.entry_list_extend (F.args_list_extend_2 _ _)
    (AutoSeq1.list_extend_list_list_0 l its.toArray n b its2.toArray n2 hlong (by rw [List.size_toArray]; omega) (by omega)) ⟨e, e2, ?_⟩
  refine ⟨.non, _, I.lset (its' := its ++ its2) hH e (by simp) (r.append r2) ?_, rfl, q⟩
  rw [List.length_append]
  omega
noncomputable def rPop : V → List V → Hp → VK → Prop := fun x vs H Q => ∃ l xs y, x = .ref l ∧ vs = [] ∧ H l = some (.lst xs) ∧ xs[xs.length - 1]? = some y ∧ Q y (upd H l (.lst xs.dropLast))
noncomputable def rPopAt : V → List V → Hp → VK → Prop := fun x vs H Q => ∃ l xs i k y, x = .ref l ∧ vs = [.int i] ∧ H l = some (.lst xs) ∧ -(2 ^ 63) ≤ i ∧ i < 2 ^ 63 ∧ seqIndex? i xs.length = some k ∧ xs[k]? = some y ∧ Q y (upd H l (.lst (xs.eraseIdx k)))
noncomputable def rReverse : V → List V → Hp → VK → Prop := fun x vs H Q => ∃ l xs, x = .ref l ∧ vs = [] ∧ H l = some (.lst xs) ∧ Q .non (upd H l (.lst xs.reverse))
noncomputable def rClear : V → List V → Hp → VK → Prop := fun x vs H Q => ∃ l xs, x = .ref l ∧ vs = [] ∧ H l = some (.lst xs) ∧ Q .non (upd H l (.lst []))
noncomputable def rCat : R2 := fun x y H Q => ∃ l b xs zs, x = .ref l ∧ y = .ref b ∧ H l = some (.lst xs) ∧ H b = some (.lst zs) ∧ xs.length + zs.length ≤ sizeLine ∧ ∀ p, H p = none → Q (.ref p) (upd H p (.lst (xs ++ zs)))
theorem op_cat : OpR X (binaryOp .Add) rCat := by
  intro pins s σ H x y v u Q I rx ry h
  obtain ⟨l, b, xs, zs, rfl, rfl, hH, hB, hz, q⟩ := h
  cases rx
  cases ry
  obtain ⟨z, its, n, r, hl, e⟩ := I.lstM hH
  obtain ⟨z2, its2, n2, r2, hl2, e2⟩ := I.lstM hB
  refine PySem.P.add_list e e2 ?_ (by rw [List.size_toArray, List.size_toArray]; omega)
  have ea : its.toArray ++ its2.toArray = (its ++ its2).toArray := by simp
  rw [ea]
  exact ⟨.ref _, _, I.lnew (t' := s.toks) (r.append r2) (by rw [List.length_append]; omega), rfl, q _ I.fresh⟩
noncomputable def rRep : R2 := fun x y H Q => ∃ l k xs, x = .ref l ∧ y = .int k ∧ H l = some (.lst xs) ∧ -(2 ^ 63) ≤ k ∧ k < 2 ^ 63 ∧ xs.length * k.toNat ≤ sizeLine ∧
  ∀ p, H p = none → Q (.ref p) (upd H p (.lst (List.replicate k.toNat xs).flatten))
theorem len_rep {α : Type} (xs : List α) (k : Nat) : (List.replicate k xs).flatten.length = k * xs.length := by
  induction k with
  | zero => simp
  | succ k ih => rw [List.replicate_succ, List.flatten_cons, List.length_append, ih, Nat.succ_mul, Nat.add_comm]
theorem op_rep : OpR X (binaryOp .Mult) rRep := by
  intro pins s σ H x y v u Q I rx ry h
  obtain ⟨l, k, xs, rfl, rfl, hH, h1, h2, hz, q⟩ := h
  cases rx
  obtain ⟨t, rfl⟩ := ry
  obtain ⟨z, its, n, r, hl, e⟩ := I.lstM hH
  have hlen : its.toArray.size * k.toNat ≤ sizeLine := by rw [List.size_toArray, ← hl]; exact hz
  have hcap : ¬ its.toArray.size * k.toNat > (2 ^ 63 - 1) / 8 := by
    have : (sizeLine : Nat) ≤ (2 ^ 63 - 1) / 8 := by decide
    omega
  have hfit : ¬ (!Builtin.List.listFitsIndex k) = true := by
    rw [fitsIndex_both h1 h2]
    exact Bool.false_ne_true
  have hlong : ¬ Builtin.List.listTooLong (its.toArray.size * k.toNat) = true := by
    rw [notLongL hlen]
    exact Bool.false_ne_true
  have hnew : List.foldl (fun x1 x2 => x1 ++ x2) #[] (List.replicate (if its.toArray.isEmpty = true then 0 else k.toNat) its.toArray) = (List.replicate k.toNat its).flatten.toArray := by
    have f0 : ∀ m : Nat, List.foldl (fun x1 x2 => x1 ++ x2) #[] (List.replicate m its.toArray) = (List.replicate m its).flatten.toArray := fun m => by
      have := foldl_rep its m []
      rw [List.nil_append] at this
      exact this
    rw [f0]
    cases its with
    | nil => simp
    | cons a r' => rw [if_neg (by simp)]
  refine wpAny_binaryOp_repeat_ref (T := "list") (U := "int") (by decide) ⟨_, e, rfl⟩ (fun s' => typeIs_int s' k t) noFill_list_mul F.fills_int_mul F.slot_int_rmul repeat_list F.slot_int_index.lookup
    (call_meets F.slot_int_rmul (typeIs_int s k t) F.entry_int_rmul (F.args_int_rmul_2 _ _) (int___rmul___int_list k t l its.toArray n)
      ⟨e, rfl, ⟨_, e, rfl⟩, call_meets F.slot_list_mul ⟨_, e, rfl⟩ F.entry_list_mul (F.args_list_mul_2 _ _) (AutoListH.list___mul___list_int_3 l its.toArray n k t hfit hcap hlong) ⟨e, ?_⟩⟩)
  rw [hnew]
  exact ⟨.ref _, _, I.lnew (t' := s.toks) (r.rep k.toNat) (by rw [len_rep, Nat.mul_comm]; exact hz), rfl, q _ I.fresh⟩
end
section
variable {prog : Program} {w : World} {A : Around} {E : Value → Shared → Prop} {s : Shared}
end
section
variable {X : Cx}
end
end L2
namespace Att
open PySem PySem.W PySem.Calls PyProof.Rows
theorem ints_of_wellAll {P : Params} {h : Heap} : ∀ (ns : List Int) (vs : List Value), WellAll P h vs (ns.map WData.int) → IntsAre vs ns := by
  intro ns
  induction ns with
  | nil =>
    intro vs w
    rw [List.map_nil] at w
    cases w
    exact .nil
  | cons n ns ih =>
    intro vs w
    rw [List.map_cons] at w
    cases w with
    | cons a b =>
      cases a
      exact .cons _ _ (ih _ b)
theorem script_of {l : OpenLaw} {n : Nat} (hn : l.most = some n) {P : Params} {h : Heap} {args : List WData} {vals : List Value}
    (hpre : l.row.toRowW.claim.pre args = true) (hwl : WellAll P h vals args) :
    ∃ a vs ns, vals = [Value.ref a] ∧ args = [WData.list (ns.map WData.int)] ∧ h.get? a = some { cls := .type "list", data := .seq vs.toArray } ∧ IntsAre vs ns ∧ ns.length ≤ n := by
  have hsh : WShape.hasAll [] args [.list .int] = true := (pre_splitW hpre).1
  have hc : l.pre.holds [] { args := args } = true := (pre_splitW hpre).2
  obtain ⟨d, r, rfl, h1, h2⟩ := hasAllW_cons hsh
  obtain rfl := hasAllW_nil h2
  obtain ⟨xs, rfl, h3⟩ := hasW_list h1
  obtain ⟨ns, rfl⟩ := items_int h3
  have hlen : ns.length ≤ n := by
    unfold OpenLaw.pre at hc
    have h4 : (WTm.not (.lt (.lit (.int (n : Int))) (.len (.arg 0)))).holds [] { args := [.list (ns.map .int)] } = true := by
      have h4 := (holds_andW hc).1
      rw [hn] at h4
      exact h4
    have h5 := condW_of h4 (w_not (w_lt w_lit (w_len_list (w_arg rfl))))
    rw [List.length_map] at h5
    refine Nat.le_of_not_lt fun q => ?_
    have q' : (n : Int) < ((ns.length : Nat) : Int) := by omega
    first
      | (rw [decide_eq_true q'] at h5; exact absurd h5 (by decide))
      | (simp at h5; omega)
  cases hwl with
  | cons w1 w2 =>
    cases w2
    cases w1 with
    | list ho hall => exact ⟨_, _, ns, rfl, rfl, ho, ints_of_wellAll ns _ hall, hlen⟩
theorem post_true (l : OpenLaw) (args : List WData) : l.row.toRowW.claim.post args (.bool true) args = true :=
  postW_of (r := l.row.toRowW) (X := (true == true))
    (show WShape.has [] (.bool true) .bool = true by first | rfl | decide | simp [WShape.has, WShape.arms, WShape.armsAll])
    (show (WTm.eq .res (.lit (.bool true))).value [] { args := args, res := some (.bool true), after := args } = some (.bool (true == true)) from w_eq_bool (w_res rfl) w_lit) rfl
theorem attach_call {l : OpenLaw} {n : Nat} {q : Program} {loose : List Str} {XP : (Str → Option Value) → Heap → Prop} {YP : World → Heap → Prop} {d : DefRec}
    (hn : l.most = some n) (hdf : d.params.defaults = [])
    (call : ∀ (w : World) (s₀ s₁ : Shared) (mg mb : Str → Option Value) (fa : Addr) (o : Obj) (pm cd doc : Value) (a : Addr) (vs : List Value) (ns : List Int),
      Ground q loose [] XP w s₀ mg mb s₁.heap → YP w s₁.heap →
      s₁.heap.get? fa = some o → o.data = .func (docDef d.name d.params d.body d.scope pm cd doc) → s₁.heap.CodeRec cd d.name → mg d.name = some (.ref fa) →
      s₁.heap.get? a = some { cls := .type "list", data := .seq vs.toArray } → IntsAre vs ns → ns.length ≤ n → s₁.gens = #[] →
      codeAny (model l.prog w) callerA (.call (.ref fa) ⟨[.ref a], []⟩) (fun r s' => r = .ok (.ret (.bool true)) ∧ OldK s₁.heap s'.heap ∧ s'.os = s₁.os ∧ AllBare s'.gens) s₁) :
    WalkO q loose XP YP l.row.toRowW d [] (fun f vs => PySem.call f vs) := by
  intro w s₀ s₁ mg mb G Y fa o pm cd doc dV kV ho hd hcd hD hmg hg args vals as hpre hlay hrd hwl hlo
  obtain rfl : dV = .none := Dflts.none hD hdf
  obtain rfl : kV = .none := Dflts.noKw hD
  obtain ⟨a, vs, ns, rfl, rfl, hobj, hints, hlen⟩ := script_of hn hpre hwl
  refine enter_call (codeAny_mono (call w s₀ s₁ mg mb fa o pm cd doc a vs ns G Y ho (fd_plain hd) hcd hmg hobj hints hlen hg) fun r s' hq => ?_)
  obtain ⟨rfl, h2, h3, h4⟩ := hq
  exact ⟨.inl ⟨.bool true, .bool true, [], rfl, fun _ => rfl, .bool true, post_true l _, fun _ => ⟨List.Pairwise.nil, fun _ hm => (nomatch hm)⟩⟩, h2, h3, h4⟩
section
variable {prog : Program} {w : World} {A : Around} {E : Value → Shared → Prop} {s : Shared} {K : Frag}
noncomputable def noObjs (h : Heap) : Heap := { h with objs := #[] }
noncomputable def ledger (h : Heap) (L d : Addr) : List (Addr × Obj) := (List.range h.objs.size).filterMap fun a => if a = L ∨ a = d then none else (h.get? a).map fun o => (a, o)
end
end Att
namespace L2
open PySem PySem.Spec PyProof.Rows
theorem vals_ints : ∀ {vs : List Value} {ns : List Int}, IntsAre vs ns → Vals (ns.map V.int) vs
  | _, _, .nil => .nil
  | _, _, .cons n t h => .cons ⟨t, rfl⟩ (vals_ints h)
noncomputable def Only (H : Hp) : Prop := ∀ b, H b = none ∨ ∃ o xs, H b = some (.frz o (.lst xs))
theorem law_call {P : Program} {w : World} {K : PySem.W.Frag} {mg mb : Str → Option Value} {CX : CXT} {c : Bool} {k : Nat} {fa a : Addr} {fd : FuncData} {x : Str} {sp : Sp} {s₁ : Shared} {vs : List Value} {ns : List Int}
    (KX : K.In s₁.heap) (hns : s₁.heap.Ns mainGlobals mg) (hb : s₁.heap.Ns builtinsNs mb) (hbb : ∀ x : Str, x ≠ "__name__" → mb x = bootBuiltins x) (hlim : s₁.heap.NoLimit) (hg : s₁.gens = #[])
    (ha : s₁.heap.get? a = some { cls := .type "list", data := .seq vs.toArray }) (hi : IntsAre vs ns) (hl : ns.length ≤ sizeLine) (hr : Room k callerA)
    (F : ∀ base : Heap, K.In base → base.Ns mainGlobals mg → FnOk P w K mg base CX c k fa fd [x] sp) (hbind : ∀ (s : Shared) (u : Value), BindsTo s fd ⟨[u], []⟩ [(x, u)])
    (hsp : ∀ H : Hp, Only H → SqL K H a (ns.map V.int) → sp [.ref a] H (fun v _ => v = .bl true) fun _ _ _ => False)
    (hCX : ∀ H e s', CX [] H s₁ (fun _ _ _ => False) e s' → False) :
    codeAny (model P w) callerA (.call (.ref fa) ⟨[.ref a], []⟩) (fun r s' => r = .ok (.ret (.bool true)) ∧ OldK s₁.heap s'.heap ∧ s'.os = s₁.os ∧ AllBare s'.gens) s₁ := by
  have rv := vals_ints hi
  have lenV := hi.length
  have core : ∀ H : Hp, Only H → SqL K H a (ns.map V.int) → HOk P w H s₁.heap → (∀ b, H b ≠ none → b = a) → (H a ≠ none → K.lookup a = none) →
      codeAny (model P w) callerA (.call (.ref fa) ⟨[.ref a], []⟩) (fun r s' => r = .ok (.ret (.bool true)) ∧ OldK s₁.heap s'.heap ∧ s'.os = s₁.os ∧ AllBare s'.gens) s₁ := by
    intro H hO hS hok hA hK
    have base_of : ∀ {b : Addr} {o : Obj}, s₁.heap.get? b = some o → H b = none → (hidT s₁.heap H).get? b = some o := fun e n => hidT_get e n
    have noA : ∀ {b : Addr} {o : Obj} {es : Array DictEntry} {ep : Nat}, s₁.heap.get? b = some o → o.data = .dict es ep → H b = none := fun {b o es ep} e d => by
      cases q : H b with
      | none => rfl
      | some u =>
        have e' : b = a := hA b (by rw [q]; simp)
        subst e'
        rw [ha] at e; cases e
        have d' : Data.seq vs.toArray _ = Data.dict es ep := d
        cases d'
    have nsK : ∀ {b : Addr} {m : Str → Option Value}, s₁.heap.Ns b m → (hidT s₁.heap H).Ns b m := fun {b m} ⟨o, es, ep, e, d, r⟩ => ⟨o, es, ep, base_of e (noA e d), d, r⟩
    have hKb : K.In (hidT s₁.heap H) := fun b o e => base_of (KX b o e) (by
      cases q : H b with
      | none => rfl
      | some u =>
        have e' : b = a := hA b (by rw [q]; simp)
        subst e'
        rw [hK (by rw [q]; simp)] at e; cases e)
    have hM : Mod K mg (hidT s₁.heap H) := ⟨hKb, nsK hns, ⟨mb, nsK hb, hbb⟩, let ⟨mc, h1, h2⟩ := hlim; ⟨mc, nsK h1, h2⟩⟩
    have e0 : Env0 P w K mg (hidT s₁.heap H) callerA [] s₁ H := ⟨rfl, hM, fun b o e => of_hidT e, Nat.le_of_eq (hidT_size _ _), trivial, fun b hb => absurd (show b ∈ ([] : List Addr) from hb) (by simp), hok, .of_eq hg⟩
    refine codeAny_mono ((F _ hKb (nsK hns)).run callerA [] s₁ H ⟨[.ref a], []⟩ [.ref a] [.ref a] _ _ none (fun _ => rfl) (.inl rfl) (fun _ _ z => nomatch z) hr e0 (hbind s₁ (.ref a)) (.cons rfl .nil) (hsp H hO hS)) fun r s' h => ?_
    cases r with
    | error e => exact (hCX H e s' h).elim
    | ok fl =>
      cases fl with
      | next => exact False.elim h
      | brk => exact False.elim h
      | cont => exact False.elim h
      | ret u =>
        obtain ⟨v, H', os, bare, un, hok', r', q⟩ := h
        have q' : v = .bl true := q
        subst q'
        obtain rfl : u = Value.bool true := r'
        refine ⟨rfl, OldK.of_keep fun b o e => ?_, os, bare⟩
        cases q : H b with
        | none => exact un.keep b o e q (by intro z; exact absurd (show b ∈ ([] : List Addr) from z) (by simp)) (by simp)
        | some u =>
          rcases hO b with z | ⟨ob, xs, z⟩
          · rw [q] at z; cases z
          · have z2 := un.frzs b ob _ z
            obtain ⟨e1, _⟩ := hok b _ z
            obtain ⟨e2, _⟩ := hok' b _ z2
            rw [e] at e1; cases e1
            exact e2
  cases hk : K.lookup a with
  | some o =>
    have e := KX a o hk
    rw [ha] at e
    cases e
    refine core (fun _ => none) (fun _ => .inl rfl) (.inr ⟨_, vs.toArray, _, hk, rfl, rfl, rfl, by rw [List.size_toArray, lenV]; exact hl, by simpa using rv⟩) (fun b u z => by have z' : (none : Option HO) = some u := z; cases z') (fun b z => absurd rfl z) fun z => absurd rfl z
  | none =>
    refine core (fun b => if b = a then some (.frz { cls := .type "list", data := .seq vs.toArray } (.lst (ns.map V.int))) else none) (fun b => ?_) (.inl (.inr ⟨{ cls := .type "list", data := .seq vs.toArray }, if_pos rfl⟩)) (fun b u z => ?_) (fun b z => ?_) fun _ => hk
    · by_cases hb : b = a
      · exact .inr ⟨_, _, if_pos hb⟩
      · exact .inl (if_neg hb)
    · by_cases hb : b = a
      · have z' := (if_pos hb).symm.trans z
        cases z'
        subst hb
        exact ⟨ha, by rw [List.length_map]; exact hl, vs, _, rv, ha⟩
      · have z' := (if_neg hb).symm.trans z
        cases z'
    · by_cases hb : b = a
      · exact hb
      · exact absurd (if_neg hb) z
end L2
namespace L2
open PySem PySem.Spec PyProof.Rows
noncomputable abbrev KOf {K : PySem.W.Frag} {h : Heap} (_ : K.In h) : PySem.W.Frag := K
theorem walk_of {l : PySem.W.OpenLaw} {c : Bool} {n k : Nat} {q : Program} {loose : List Str} {XP : (Str → Option Value) → Heap → Prop} {YP : World → Heap → Prop} {d : DefRec} {K : Params → PySem.W.Frag} {CX : World → CXT} {sp : World → Sp} {x : Str}
    (hn : l.most = some n) (hn2 : n ≤ sizeLine) (hdf : d.params.defaults = []) (hr : Room k callerA)
    (hY : ∀ (w : World) (h : Heap), YP w h → (K w.params).In h)
    (F : ∀ (w : World) (mg : Str → Option Value) (fa : Addr) (h : Heap), (K w.params).In h → h.Ns mainGlobals mg → mg d.name = some (.ref fa) →
      ∃ fd : FuncData, (∀ (s : Shared) (u : Value), BindsTo s fd ⟨[u], []⟩ [(x, u)]) ∧
        ∀ base : Heap, (K w.params).In base → base.Ns mainGlobals mg → FnOk l.prog w (K w.params) mg base (CX w) c k fa fd [x] (sp w))
    (hsp : ∀ (w : World) (H : Hp) (a : Addr) (ns : List Int), ns.length ≤ n → Only H → SqL (K w.params) H a (ns.map V.int) → sp w [.ref a] H (fun v _ => v = .bl true) fun _ _ _ => False)
    (hCX : ∀ (w : World) (H : Hp) (s : Shared) (e : Value) (s' : Shared), CX w [] H s (fun _ _ _ => False) e s' → False) :
    PySem.W.WalkO q loose XP YP l.row.toRowW d [] (fun f vs => PySem.call f vs) := by
  refine Att.attach_call hn hdf fun w s₀ s₁ mg mb fa o pm cd doc a vs ns G Y ho hd hcd hmg hobj hints hlen hg => ?_
  have KX := hY w _ Y
  obtain ⟨fd, hb, hF⟩ := F w mg fa _ KX G.T.g hmg
  exact law_call KX G.T.g G.T.b G.T.builtins G.T.nolimit hg hobj hints (Nat.le_trans hlen hn2) hr hF hb (fun H hO hS => hsp w H a ns hlen hO hS) fun H e s' => hCX w H s₁ e s'
end L2
/- THE LAST THEOREM (shape; LID, My.* are yours):
   My.Adr: a structure of the addresses that your layer names (classes, functions); My.Txt K t: a structure (Prop) of the equations over K;
   My.txt_mk : {K} {implicit addresses ..} (e1 : nsIn K mainGlobals "law" = some (some (.ref f))) (e2 : K.lookup f = some ⟨oc, od, .func (fnOf "law" "law" params body scope dV kV doc pm an cdv ct), sl⟩) (e3 : codeIn K cdv "law" = true) .. : ∃ t, My.Txt K t
(the tactic k_is has no namespace: write k_is) -/
namespace L2
open PySem PySem.Spec PyProof.Rows
noncomputable def inClass (s : Stmt) (j : Nat) : Stmt := match s with
  | .ClassDef _ _ _ body _ _ _ _ _ _ _ => body.getD j (.Pass ⟨0, 0, 0, 0⟩)
  | _ => .Pass ⟨0, 0, 0, 0⟩
noncomputable def defArgs (s : Stmt) : Arguments := match s with
  | .FunctionDef _ a _ _ _ _ _ _ _ _ => a
  | _ => { posonlyargs := [], args := [], vararg := none, kwonlyargs := [], kw_defaults := [], kwarg := none, defaults := [] }
noncomputable def defBody (s : Stmt) : List Stmt := match s with
  | .FunctionDef _ _ b _ _ _ _ _ _ _ => b
  | _ => []
noncomputable def defScope (s : Stmt) : Scope := match s with
  | .FunctionDef _ _ _ _ _ _ sc _ _ _ => sc
  | _ => { kind := .function, names := [], isGenerator := false, isCoroutine := false }
noncomputable abbrev CX0 : CXT := fun _ _ _ _ _ _ => False
noncomputable abbrev E0 : XK := fun _ _ _ => False
structure Fun (K : PySem.W.Frag) (x qual : Str) (st : Stmt) (f : Addr) (fd : FuncData) : Prop where
  ex : ∃ (oc : Value) (od : Option Addr) (kV doc pm : Value) (an : Option Addr) (cdv ct : Value) (osl : Array (Option Value)),
    fd = PySem.W.fnOf x qual (defArgs st) (defBody st) (defScope st) .none kV doc pm an cdv ct ∧ K.lookup f = some ⟨oc, od, .func fd, osl⟩ ∧ PySem.W.codeIn K cdv qual = true
  kp : PySem.W.keepIn K (.ref f) = true
section
variable {P : Program} {w : World} {K : PySem.W.Frag} {mg : Str → Option Value} {base : Heap}
theorem Fun.binds {x qual : Str} {st : Stmt} {f : Addr} {fd : FuncData} {ps : List Str} (F : Fun K x qual st f fd)
    (h : ∀ (kV doc pm : Value) (an : Option Addr) (cdv ct : Value) (us : List Value), us.length = ps.length → bindArgs (PySem.W.fnOf x qual (defArgs st) (defBody st) (defScope st) .none kV doc pm an cdv ct) ⟨us, []⟩ = pure (ps.zip us)) : Binds K fd ps [] := by
  obtain ⟨oc, od, kV, doc, pm, an, cdv, ct, osl, rfl, lk, hcd⟩ := F.ex
  exact .all (h kV doc pm an cdv ct)
theorem fun_mk {x qual : Str} {st : Stmt} {f : Addr} {oc : Value} {od an : Option Addr} {osl : Array (Option Value)} {kV doc pm cdv ct : Value} (l : K.lookup f = some ⟨oc, od, .func (PySem.W.fnOf x qual (defArgs st) (defBody st) (defScope st) .none kV doc pm an cdv ct), osl⟩)
    (c : PySem.W.codeIn K cdv qual = true) (k : PySem.W.keepIn K (.ref f) = true) : Fun K x qual st f (PySem.W.fnOf x qual (defArgs st) (defBody st) (defScope st) .none kV doc pm an cdv ct) := ⟨⟨oc, od, kV, doc, pm, an, cdv, ct, osl, rfl, l, c⟩, k⟩
end
theorem hu_of {A : Around} {k : Nat} (hr : Room k A) : A.units + 1 < cLine := Nat.lt_of_le_of_lt (Nat.add_le_add_left (by decide : 1 ≤ 64) _) hr.units
theorem small1000 {n : Nat} (h : n ≤ 1000) : n < sizeLine := Nat.lt_of_le_of_lt h (by decide)
section
variable {X : Cx}
end
theorem iteF {A B : Prop} (h : B) : if false = true then A else B := by
  rw [if_neg Bool.false_ne_true]
  exact h
theorem iteT {A B : Prop} (h : A) : if true = true then A else B := by
  rw [if_pos rfl]
  exact h
theorem ite2 {c A B : Prop} [Decidable c] (h1 : c → A) (h2 : ¬ c → B) : if c then A else B := by
  by_cases h : c
  · rw [if_pos h]
    exact h1 h
  · rw [if_neg h]
    exact h2 h
theorem iteNS {c A B : Prop} [Decidable c] (hc : c) (h : B) : if (!decide c) = true then A else B := by
  rw [decide_eq_true hc]
  exact iteF h
noncomputable def Same (H H' : Hp) : Prop := ∀ b o, H b = some o → H' b = some o
theorem Same.refl (H : Hp) : Same H H := fun _ _ h => h
theorem Same.trans {H H1 H2 : Hp} (a : Same H H1) (b : Same H1 H2) : Same H H2 := fun c o h => b c o (a c o h)
theorem Same.free {H H' : Hp} (e : Same H H') {l : Addr} (h : H' l = Option.none) : H l = Option.none := by
  cases q : H l with
  | none => rfl
  | some o =>
    rw [e l o q] at h
    cases h
theorem Same.seq {K : PySem.W.Frag} {H H' : Hp} {a : Addr} {xs : List V} (e : Same H H') (h : SqL K H a xs) : SqL K H' a xs := by
  rcases h with (h | ⟨o, h⟩) | h
  · exact .inl (.inl (e _ _ h))
  · exact .inl (.inr ⟨o, e _ _ h⟩)
  · exact .inr h
end L2
set_option Elab.async false
set_option linter.all false
set_option maxRecDepth 100000
namespace L2
open PySem PySem.Spec PyProof.Rows
section
variable {P : Program} {w : World} {H H' H1 H2 : Hp} {h h' h0 h1 h2 B : Heap} {a b : Addr} {o : HO} {fs ex : List Addr}
theorem ObjOk.there (x : ObjOk P w H h a o) : ∃ ob, h.get? a = some ob := by
  cases o with
  | lst xs => obtain ⟨_, _, _, _, e⟩ := x; exact ⟨_, e⟩
  | tup xs => obtain ⟨_, _, _, ob, e, _⟩ := x; exact ⟨_, e⟩
  | dK kvs => obtain ⟨_, _, _, _, o, _, _, e, _⟩ := x; exact ⟨_, e⟩
  | dT kvs => obtain ⟨_, _, _, _, o, _, _, e, _⟩ := x; exact ⟨_, e⟩
  | set S n => obtain ⟨o, _, _, _, e, _⟩ := x; exact ⟨_, e⟩
  | ins C dx fs => obtain ⟨_, _, _, e, _⟩ := x; exact ⟨_, e⟩
  | own y => exact x
  | xd fs => obtain ⟨_, ⟨_, _, _, e, _⟩, _⟩ := x; exact ⟨_, e⟩
  | rng lo hi => obtain ⟨_, _, _, e⟩ := x; exact ⟨_, e⟩
  | frz ob u => obtain ⟨e, _⟩ := x; exact ⟨_, e⟩
  | tbl ps => exact ⟨_, (show h.get? a = some _ from x)⟩
  | met f y => exact ⟨_, (show h.get? a = some _ from x)⟩
  | ext φ => obtain ⟨_, e, _⟩ := x; exact e
theorem Un.shrink {L : Addr} (u : Un (L :: fs) ex H H' h h') (hL : h.get? L = none) : Un fs ex H H' h h' := by
  have ne : ∀ b o, h.get? b = some o → b ≠ L := fun b o q z => by rw [z, hL] at q; cases q
  refine ⟨fun b o q n hb hx => u.keep b o q n (fun z => (List.mem_cons.mp z).elim (ne b o q) hb) hx, fun b o q n hb hx => u.slot b o q n (List.mem_cons_of_mem _ hb) hx, u.free, u.there, u.tups, u.frzs, u.tbls⟩
theorem Un.air (u : Un fs [] H H1 h0 h1) (hB1 : ∀ b o, h0.get? b = some o → b ∉ fs → ∃ o', B.get? b = some o') (s1 : B.StaysIn h1) (s2 : B.StaysIn h2) (up : h1.UpToSlots h2)
    (fr : ∀ b ∈ fs, ∃ o, h1.get? b = some o ∧ ∀ vs, o.data ≠ .fields vs) : Un fs [] H H1 h0 h2 := by
  refine ⟨fun b o q n hb hx => ?_, fun b o q n hb hx => ?_, u.free, fun b o q hx => ?_, u.tups, u.frzs, u.tbls⟩
  · obtain ⟨o', e⟩ := hB1 b o q hb
    have e1 := s1 b o' e
    rw [u.keep b o q n hb hx] at e1
    cases e1
    exact s2 b _ e
  · obtain ⟨sl, e1⟩ := u.slot b o q n hb hx
    obtain ⟨o1, e2, nf⟩ := fr b hb
    rw [e1] at e2; cases e2
    obtain ⟨sl', e3⟩ := up b _ e1 nf
    exact ⟨sl', e3⟩
  · by_cases hb : b ∈ fs
    · obtain ⟨o1, e2, nf⟩ := fr b hb
      obtain ⟨sl', e3⟩ := up b _ e2 nf
      exact ⟨_, e3⟩
    · obtain ⟨o', e⟩ := hB1 b o q hb
      exact ⟨o', s2 b o' e⟩
theorem HOk.air (hok : HOk P w H1 h1) (hB2 : ∀ b u, H1 b = some u → ∃ o', B.get? b = some o') (s1 : B.StaysIn h1) (s2 : B.StaysIn h2) : HOk P w H1 h2 := fun a o e =>
  (hok a o e).stay (fun b v hb q => by
    have hu : ∃ u, H1 b = some u := by
      rcases hb with rfl | hb
      · exact ⟨_, e⟩
      · exact ⟨_, hb⟩
    obtain ⟨u, hu⟩ := hu
    obtain ⟨o', e1⟩ := hB2 b u hu
    have e2 := s1 b o' e1
    rw [q] at e2; cases e2
    exact s2 b _ e1) (fun _ q => q) fun _ _ q => q
end
noncomputable def CX1 (P : Program) (w : World) : CXT := fun outer H s E e s' =>
  ∃ (a C : Addr) (H' : Hp) (B : Heap), e = .ref a ∧ E (.ref C) none H' ∧ s'.os = s.os ∧ AllBare s'.gens ∧ Un (frs outer) [] H H' s.heap s'.heap ∧ HOk P w H' s'.heap ∧
    InAir B s'.heap outer a (.ref C) (some .none) ∧ (∀ b o, s.heap.get? b = some o → b ∉ frs outer → ∃ o', B.get? b = some o') ∧ (∀ b u, H' b = some u → ∃ o', B.get? b = some o')
structure DefCx (X : Cx) : Prop where
  stk : X.stack = X.env :: X.outer
  frm : X.env.frame = some X.env.locals
  ex : X.ex = []
noncomputable def XE (X : Cx) (E : XK) : Value → Shared → Prop := fun e s' =>
  ∃ (pins : List (Addr × Obj)) (σ : St) (H : Hp) (s : Shared) (a C : Addr) (H1 : Hp) (B : Heap) (f : Option Value), e = .ref a ∧ Inv X pins σ H s ∧ E (.ref C) none H1 ∧ s'.os = s.os ∧ AllBare s'.gens ∧
    Un (frs X.stack) [] H H1 s.heap s'.heap ∧ HOk X.prog X.w H1 s'.heap ∧ InAir B s'.heap X.stack a (.ref C) f ∧ (f = none ∨ f = some .none ∨ f = some (rawInt X.env.locals)) ∧
    (∀ b o, s.heap.get? b = some o → b ∉ frs X.stack → ∃ o', B.get? b = some o') ∧ (∀ b u, H1 b = some u → ∃ o', B.get? b = some o')
noncomputable abbrev Xw (X : Cx) (E : XK) : Cx := X.wish (XE X E)
theorem E0.no {P : Program} {w : World} {outer : List Env} {H : Hp} {s s' : Shared} {e : Value} : ¬ CX1 P w outer H s E0 e s' := fun ⟨_, _, _, _, _, z, _⟩ => z
theorem passN {X : Cx} {P : Program} {w : World} : Passes (CX1 P w) X E0 := fun _ _ _ _ _ _ _ h => (E0.no h).elim
section
variable {X : Cx} {E : XK}
theorem frames_air {B h : Heap} {l : List Env} {e : Addr} {c : Value} {f : Option Value} (x : InAir B h l e c f) : ∀ b ∈ frs l, ∃ o, h.get? b = some o ∧ ∀ vs, o.data ≠ .fields vs := fun b hb => (x.2.2.1.mem hb).2
theorem passX : Passes (CX1 X.prog X.w) (Xw X E) E := fun pins σ H s e s' I h => by
  obtain ⟨a, C, H', B, rfl, q, os, bare, un, hok, air, b1, b2⟩ := h
  exact ⟨pins, σ, H, s, a, C, H', B, some .none, rfl, I.unwish, q, os, bare, un, hok, air, .inr (.inl rfl), b1, b2⟩
theorem passesXE (D : DefCx X) : PassesOwn (model X.prog X.w) X.A X.env (XE X E) := fun e s' h => by
  obtain ⟨pins, σ, H, s, a, C, H1, B, f, rfl, I, q, os, bare, un, hok, air, hf, b1, b2⟩ := h
  have hfr := I.ok.frames
  rw [D.stk] at hfr air
  refine air_note hfr D.frm air hf fun h2 air2 up2 => air_back (s := { s' with heap := h2 }) D.frm air2 fun h3 air3 up3 => ?_
  refine ⟨pins, σ, H, s, a, C, H1, B, _, rfl, I, q, os, bare, un.air b1 air.1 air3.1 (up2.trans up3) (by rw [D.stk]; exact frames_air air), hok.air b2 air.1 air3.1, by rw [D.stk]; exact air3, .inr (.inr rfl), b1, b2⟩
theorem XE.leave (D : DefCx X) {e : Value} {s' : Shared} (h : XE X E e s') {E' : Value → Shared → Prop} {M : Model} :
    wpAny M X.A (leaving X.env e) (fun _ s'' => CX1 X.prog X.w X.outer X.H₀ X.s₀ E e s'') E' s' := by
  obtain ⟨pins, σ, H, s, a, C, H1, B, f, rfl, I, q, os, bare, un, hok, air, hf, b1, b2⟩ := h
  have hfr := I.ok.frames
  rw [D.stk] at hfr air
  refine air_leave hfr D.frm air hf fun h2 air2 up2 => ?_
  have u1 : Un (frs X.stack) [] H H1 s.heap h2 := un.air b1 air.1 air2.1 up2 (by rw [D.stk]; exact frames_air air)
  have e1 : frs X.stack = X.env.locals :: frs X.outer := by unfold frs; rw [D.stk, List.filterMap_cons, D.frm]
  have hb : Un (frs X.stack) [] X.H₀ H X.s₀.heap s.heap := by
    have z := I.base
    rw [D.ex] at z
    exact z.mono (fun b hb => by rw [e1]; exact List.mem_cons_of_mem _ hb) fun _ z => z
  have u2 := hb.trans u1
  rw [e1] at u2
  have u3 := u2.shrink (Heap.get?_none_of_le I.ok.above)
  refine ⟨a, C, H1, B, rfl, q, os.trans I.os, bare, u3, hok.air b2 air.1 air2.1, air2, fun b o z hn => ?_, b2⟩
  obtain ⟨o', z'⟩ := I.base.there b o z (by rw [D.ex]; simp)
  refine b1 b o' z' fun hm => ?_
  rw [e1] at hm
  rcases List.mem_cons.mp hm with hm | hm
  · exact absurd (Nat.lt_of_lt_of_le (Heap.lt_size z) I.ok.above) (by rw [hm]; exact Nat.lt_irrefl _)
  · exact hn hm
theorem PSs.unw {X : Cx} (D : DefCx X) (hx : X.xe = fun e s' => wpAny (model X.prog X.w) X.A (leaving X.env e) (fun _ s'' => CX1 X.prog X.w X.outer X.H₀ X.s₀ E e s'') (fun e' s'' => CX1 X.prog X.w X.outer X.H₀ X.s₀ E e' s'') s')
    {st : List Stmt} {t : TS} (h : PSs (Xw X E) st t) : PSs X st t := .mk fun pins s σ H Dn I hw =>
  wpAny_mono (h pins s σ H Dn (I.wish _) hw) (fun f s' q => q.unwish) fun e s' q => by rw [hx]; exact XE.leave D q
end
section
variable {P : Program} {w : World} {K : PySem.W.Frag} {mg : Str → Option Value} {base : Heap} {c : Bool}
theorem Fun.ok {x qual : Str} {st : Stmt} {f : Addr} {fd : FuncData} {N ps : List Str} {k : Nat} {sp : Sp} (F : Fun K x qual st f fd) (S : FnScope N ps (defScope st)) (len : ∀ vs H Q E, sp vs H Q E → vs.length = ps.length)
    (hbody : ∀ (cdv : Value) (A : Around) (outer : List Env) (s : Shared) (H : Hp) (vs : List V) (Q : VK) (E : XK) (hx : Option (Addr × Obj)), (c = true → hx = none) → HxOk hx H → Room k (A.deeper (envOfC qual (defScope st) s.heap.objs.size f cdv)) →
      DefCx (cxOf (CX1 P w) P w K mg base c hx N qual (defScope st) f cdv A outer s H E) → sp vs H Q E →
      ∃ t, PSs (Xw (cxOf (CX1 P w) P w K mg base c hx N qual (defScope st) f cdv A outer s H E) E) (defBody st) t ∧ t { nx := fun _ H' => Q .non H', rt := Q } (start N vs) H) : FnOk P w K mg base (CX1 P w) c (k + 1) f fd ps sp := by
  obtain ⟨oc, od, kV, doc, pm, an, cdv, ct, osl, rfl, lk, hcd⟩ := F.ex
  refine fn_of lk hcd S len fun A outer s H vs Q E hx hcx hh hr hsp => ?_
  obtain ⟨t, h, q⟩ := hbody cdv A outer s H vs Q E hx hcx hh hr ⟨rfl, rfl, rfl⟩ hsp
  exact ⟨t, PSs.unw ⟨rfl, rfl, rfl⟩ rfl h, q⟩
end
noncomputable abbrev veB : List Value := [.type "ValueError", .type "Exception", .type "BaseException", .type "object"]
noncomputable abbrev ExcC (K : PySem.W.Frag) (C : Addr) : Prop := PySem.W.excIn K C veB "ValueError.__new__" = true
theorem ns_keep {K : PySem.W.Frag} {h h' : Heap} {N : Addr} {m : Str → Option Value} (X : K.In h) (X' : K.In h') (q : PySem.W.nsOkIn K N = true) (n : h.Ns N m) : h'.Ns N m := by
  unfold PySem.W.nsOkIn at q
  split at q
  · rename_i ho
    exact n.at' fun o e => by
      have e2 := X _ _ ho
      rw [e] at e2
      cases e2
      exact X' _ _ ho
  · cases q
noncomputable def tRaise (E : XK) (C : Addr) (t : TA) : TS := fun _ σ H => t σ H fun vs H1 => vs.length ≤ sizeLine ∧ E (.ref C) none H1
theorem made_air {h h' : Heap} {e C : Addr} {vs : List Value} {l : List Env} {B0 : Heap} (hm : Heap.MadeExcOf h h' e (.ref C) vs) (hl : h.FunFrames B0 l) : InAir (PySem.W.hideAll h (frs l)) h' l e (.ref C) none := by
  obtain ⟨t, he, _, _⟩ := hm.there
  refine ⟨fun b o q => hm.keeps b o (PySem.W.of_hideAll _ q), ?_, ?_, _, ⟨_, he, ⟨rfl, rfl⟩, rfl⟩, rfl, rfl⟩
  · cases q : (PySem.W.hideAll h (frs l)).get? e with
    | none => rfl
    | some o => have := PySem.W.of_hideAll _ q; rw [hm.new] at this; cases this
  · exact (PySem.W.funFrames_hide hl fun env he a ha => List.mem_filterMap.mpr ⟨env, he, ha⟩).of_keeps fun b o hb _ => ⟨o, hm.keeps b o hb, rfl⟩
theorem ps_raise {X : Cx} {E : XK} {x : Str} {C : Addr} {e : Expr} {es : List Expr} {t : TA} {np cpos pos : Pos} (hc : X.calm = true) (hg : Gl X x) (hm : X.mg x = some (.ref C)) (hE : ExcC X.K C) (ha : PA (Xw X E) (e :: es) t)
    (hdb : (x == ("__debug__" : Str)) = false := by decide) (he : starEach (e :: es) X.env = (false, eval e X.env) :: starEach es X.env := by rfl) (hpl : (backTo cpos (starEach es X.env)).any (·.1) = false := by rfl) :
    PS (Xw X E) (.Raise (some (.Call (.Name x np) (e :: es) [] cpos)) none pos) (tRaise E C t) := by
  constructor
  intro pins s σ H D I h
  have hE' := hE
  unfold ExcC PySem.W.excIn at hE'
  split at hE'
  · rename_i dd cd sl ho
    split at hE'
    · rename_i C' bm k0 k1 k2 k3 n k5 hmr hs
      simp only [Bool.and_eq_true, beq_iff_eq, Bool.not_eq_true'] at hE'
      obtain ⟨⟨⟨⟨⟨rfl, rfl⟩, hdel⟩, ht⟩, hok⟩, hni⟩ := hE'
      obtain ⟨nm, bs, mro, ns, qn, hd, sn, sub, ab, col, del⟩ := cd
      dsimp only at hmr hdel hok hni
      subst hmr hdel
      have hsl : sl = #[k0, k1, k2, k3, some (.builtin "ValueError.__new__"), k5] := by
        obtain ⟨l⟩ := sl
        simp only at hs
        rw [hs]
      subst hsl
      have KI := I.kIn
      have hN : s.heap.Ns ns (s.heap.nsMap ns) := .of_isNs (PySem.W.isNs_of_in KI hok)
      have T := PySem.W.tail_of_in KI ht
      refine wpAny_Raise_call_subU (C := C') (nm := nm) (q := qn) (N := ns) (bs := bs) (bm := bm) (hdct := hd) (sn := sn) (sub := sub) (ab := ab) (col := col) (dd := dd) (k0 := k0) (k1 := k1) (k2 := k2) (k3 := k3) (k5 := k5)
        PySem.F.excBase_ValueError (bmB := veB) (by decide) PySem.F.excBase_ValueError (mN := s.heap.nsMap ns) (T.hasType PySem.F.excBase_ValueError.hasBase) (I.ok.hd hc) (by show (backTo cpos (starEach (e :: es) X.env)).any (·.1) = false; rw [he]; show (false || (backTo cpos (starEach es X.env)).any (·.1)) = false; rw [hpl]; rfl) (PySem.W.nsMap_none_of_in KI hok hni)
        (ld_glob I hg hm ⟨rfl, ?_⟩ hdb)
      have ha' := ha cpos pins s σ H _ I h
      have ha2 : wpAny (model X.prog X.w) X.A (spliced (backTo cpos (starEach (e :: es) X.env))) _ (XE X E) s := ha'
      show wpAny (model X.prog X.w) X.A (evalArgs (.ref C') true (backTo cpos (starEach (e :: es) X.env)) []) _ (XE X E) s
      rw [he] at ha2 ⊢
      refine Calls.evalArgs_plain (thn ha2 fun us s2 ⟨vs, H2, I2, rv, z, q⟩ => ⟨rfl, by rw [← rv.length]; exact z, I2.kIn _ _ ho, ns_keep KI I2.kIn hok hN, PySem.W.tail_of_in I2.kIn ht, fun h' e hx => ?_⟩)
      have I3 := I2.unwish
      refine ⟨pins, σ, H2, s2, e, C', H2, PySem.W.hideAll s2.heap (frs X.stack), none, rfl, I3, q, rfl, I3.bare, Un.kept hx.keeps, I3.hok.kept hx.keeps, made_air hx I3.stack, .inl rfl, fun b o z hn => ⟨o, PySem.W.hideAll_get _ z hn⟩, fun b u z => ?_⟩
      obtain ⟨o', z'⟩ := (I3.hok b u z).there
      exact ⟨o', PySem.W.hideAll_get _ z' fun hn => by rw [I3.stkFree b hn] at z; cases z⟩
    · cases hE'
  · cases hE'
end L2
set_option Elab.async false
set_option linter.all false
set_option maxRecDepth 100000
namespace L2
open PySem PySem.Spec PyProof.Rows
noncomputable def ExcObj (C : Addr) (o : Obj) : Prop := (o.cls = .ref C ∧ o.dict = none) ∧ ∃ vs, o.data = .fields vs ∧ vs[2]? = some .none
noncomputable abbrev frzE (o : Obj) : HO := .frz o (.ext fun _ => True)
noncomputable abbrev Cx.pin (X : Cx) (pn : List (Addr × Obj)) : Cx := { X with pn := pn }
noncomputable abbrev hdCx (X : Cx) (a : Addr) (o : Obj) : Cx := { X with A := X.A.mark (some (.ref a)), calm := false, hx := some (a, o), xe := fun _ _ => False }
noncomputable def blank (n : Nat) : St := List.replicate n none
theorem blank_no {n i : Nat} {v : V} : ¬ (blank n)[i]? = some (some v) := fun h => by
  unfold blank at h
  rw [List.getElem?_replicate] at h
  split at h <;> cases h
section
variable {X : Cx} {pins pn : List (Addr × Obj)} {σ : St} {H : Hp} {s : Shared} {a : Addr} {o : Obj}
theorem Inv.toPn (I : Inv X pins σ H s) : Inv (X.pin (X.pn ++ pins)) [] σ H s :=
  ⟨⟨I.ok.mod, I.ok.kind, I.ok.glob, I.ok.blt, I.ok.above, I.ok.inj, I.ok.has, I.ok.cab, I.ok.hd, I.ok.frames, I.ok.stk, I.ok.exf, I.ok.bs, I.ok.bsz, I.ok.noex, I.ok.exfs, I.ok.funs, I.ok.frf, I.ok.hnd⟩, I.os, I.bare, I.base, I.loc, I.cell, I.free, I.freeC,
    fun p hp => I.pin p (by rw [List.append_nil] at hp; exact hp), I.hok, I.len, I.hxs⟩
theorem Inv.ofPn {pins' : List (Addr × Obj)} (I : Inv (X.pin (X.pn ++ pins)) pins' σ H s) : Inv X pins σ H s :=
  ⟨⟨I.ok.mod, I.ok.kind, I.ok.glob, I.ok.blt, I.ok.above, I.ok.inj, I.ok.has, I.ok.cab, I.ok.hd, I.ok.frames, I.ok.stk, I.ok.exf, I.ok.bs, I.ok.bsz, I.ok.noex, I.ok.exfs, I.ok.funs, I.ok.frf, I.ok.hnd⟩, I.os, I.bare, I.base, I.loc, I.cell, I.free, I.freeC,
    fun p hp => I.pin p (List.mem_append_left _ hp), I.hok, I.len, I.hxs⟩
theorem Inv.toHd {C : Addr} (I : Inv X pins σ H s) (hx : ExcObj C o) (ha : ∃ u, H a = some (.frz o u)) : Inv (hdCx X a o) pins σ H s := by
  obtain ⟨_, vs, hd, h2⟩ := hx
  refine ⟨⟨I.ok.mod, I.ok.kind, I.ok.glob, I.ok.blt, I.ok.above, I.ok.inj, I.ok.has, I.ok.cab, (fun z => nomatch z), I.ok.frames, I.ok.stk, I.ok.exf, I.ok.bs, I.ok.bsz, I.ok.noex, I.ok.exfs, I.ok.funs, I.ok.frf, .inr ⟨a, o, vs, rfl, rfl, hd, h2⟩⟩, I.os, I.bare, I.base, I.loc, I.cell, I.free, I.freeC,
    I.pin, I.hok, I.len, fun a' o' e => ?_⟩
  cases e
  exact ha
theorem Inv.ofHd (I : Inv (hdCx X a o) pins σ H s) (hh : X.calm = true → X.A.handled = none) (h0 : X.hx = none) (hn : HdOk X.hx X.A) : Inv X pins σ H s :=
  ⟨⟨I.ok.mod, I.ok.kind, I.ok.glob, I.ok.blt, I.ok.above, I.ok.inj, I.ok.has, I.ok.cab, hh, I.ok.frames, I.ok.stk, I.ok.exf, I.ok.bs, I.ok.bsz, I.ok.noex, I.ok.exfs, I.ok.funs, I.ok.frf, hn⟩, I.os, I.bare, I.base, I.loc, I.cell, I.free, I.freeC,
    I.pin, I.hok, I.len, fun a' o' e => by rw [h0] at e; cases e⟩
theorem Inv.track {h0 : Heap} (I : Inv X pins σ H s) (hn : H a = none) (ha : s.heap.get? a = some o) (hs : X.s₀.heap.get? a = none) (hL : a ≠ X.env.locals) (hC : ∀ x c, X.env.cells.lookup x = some c → c ≠ a) (hP : ∀ p ∈ X.pn ++ pins, p.1 ≠ a) :
    Inv X pins σ (upd H a (frzE o)) s := by
  have ne : ∀ b u, H b = some u → b ≠ a := fun b u e z => by rw [z, hn] at e; cases e
  have st : ∀ b u, H b = some u → upd H a (frzE o) b = some u := fun b u e => by rw [upd_ne (ne b u e)]; exact e
  have fr : ∀ b, b ≠ a → H b = none → upd H a (frzE o) b = none := fun b z e => by rw [upd_ne z]; exact e
  refine ⟨I.ok, I.os, I.bare, ⟨I.base.keep, I.base.slot, fun b ob q n hx => fr b (fun z => by rw [z, hs] at q; cases q) (I.base.free b ob q n hx), I.base.there, fun b xs q => st b _ (I.base.tups b xs q), fun b ob u q => st b _ (I.base.frzs b ob u q), fun b ps q => ?_⟩,
    I.loc, I.cell, fr _ (Ne.symm hL) I.free, fun x c e => fr c (hC x c e) (I.freeC x c e), fun p hp => ?_, fun b u e => ?_, I.len, fun b ob e => ?_⟩
  · obtain ⟨more, e⟩ := I.base.tbls b ps q
    exact ⟨more, st b _ e⟩
  · obtain ⟨e, n, r⟩ := I.pin p hp
    exact ⟨e, fr _ (hP p hp) n, r⟩
  · by_cases hb : b = a
    · subst hb
      rw [upd_same] at e
      cases e
      exact ⟨ha, trivial, ⟨_, ha⟩, fun _ _ _ _ => trivial⟩
    · rw [upd_ne hb] at e
      exact (I.hok b u e).stay (fun c v _ q => q) (fun c q => st c _ q) fun c xs q => st c _ q
  · obtain ⟨u, z⟩ := I.hxs b ob e
    exact ⟨u, st b _ z⟩
theorem Inv.forget {h' : Heap} {t' : Nat} {m' : Str → Option Value} (I : Inv X pins σ H s) (hn : h'.Ns X.env.locals m') (hs : Heap.SameBut X.env.locals s.heap h') : Inv X pins (blank X.N.length) H { s with heap := h', toks := t' } := by
  have keep : ∀ b ob, b ≠ X.env.locals → s.heap.get? b = some ob → h'.get? b = some ob := fun b ob hb q => (hs.2 b hb).trans q
  have old : ∀ b ob, X.s₀.heap.get? b = some ob → b ≠ X.env.locals := fun b ob q => Nat.ne_of_lt (Nat.lt_of_lt_of_le (Heap.lt_size q) I.ok.above)
  refine ⟨I.ok, I.os, I.bare, ⟨fun b ob q n hb hx => keep b ob (old b ob q) (I.base.keep b ob q n hb hx), fun b ob q n hb hx => ?_, I.base.free, fun b ob q hx => ?_, I.base.tups, I.base.frzs, I.base.tbls⟩,
    ⟨m', hn, fun i x v _ e _ => (blank_no e).elim⟩, fun x c e => ?_, I.free, I.freeC, fun p hp => ?_, fun b u e => ?_, List.length_replicate, I.hxs⟩
  · obtain ⟨sl, e⟩ := I.base.slot b ob q n hb hx
    exact ⟨sl, keep b _ (old b ob q) e⟩
  · obtain ⟨o', e⟩ := I.base.there b ob q hx
    exact ⟨o', keep b o' (old b ob q) e⟩
  · obtain ⟨v, z⟩ := I.cell x c e
    exact ⟨v, z.sameBut hs (I.cne x c e)⟩
  · obtain ⟨e, n, ne, r⟩ := I.pin p hp
    exact ⟨keep _ _ ne e, n, ne, r⟩
  · refine (I.hok b u e).stay (fun c v hc q => keep c v (fun z => ?_) q) (fun _ q => q) fun _ _ q => q
    rcases hc with hc | hc
    · rw [← hc, z, I.free] at e; cases e
    · rw [z, I.free] at hc; cases hc
theorem ld_globA {M : Model} {A : Around} {E : Value → Shared → Prop} {x : Str} {u : Value} {pos : Pos} {Q : Value → Shared → Prop} (I : Inv X pins σ H s) (hg : Gl X x) (hm : X.mg x = some u) (h : Q u s)
    (hd : (x == ("__debug__" : Str)) = false := by decide) : wpAny M A (eval (.Name x pos) X.env) Q E s :=
  Calls.Name_function_global I.ok.kind hg (Calls.loadGlobal_global (by rw [I.ok.glob]; exact I.mod.glob.keeps I.bk) hm h) hd
end
noncomputable def tTry (K : PySem.W.Frag) (n i : Nat) (CE : Addr) (tb : XK → TS) (th : TS) : TS := fun D σ H => ∃ E1 : XK, tb E1 D σ H ∧ ∀ cls H1, E1 cls none H1 → ∃ C, cls = .ref C ∧ PySem.W.exmOne K (.ref C) (.ref CE) = some true ∧
  ∀ a o, H1 a = none → ExcObj C o → th { nx := fun _ H' => D.nx (blank n) H', rt := D.rt, bk := fun _ H' => D.bk (blank n) H', ct := fun _ H' => D.ct (blank n) H' } ((blank n).set i (some (.ref a))) (upd H1 a (frzE o))
theorem SP.ofPn {X : Cx} {E E' : Value → Shared → Prop} {pins pins' : List (Addr × Obj)} {D : Ends} {f : Flow} {s' : Shared} (h : SP ((X.pin (X.pn ++ pins)).wish E) pins' D f s') : SP (X.wish E') pins D f s' := by
  cases f with
  | next => obtain ⟨a, b, I, q⟩ := h; exact ⟨a, b, I.unwish.ofPn.wish _, q⟩
  | brk => obtain ⟨a, b, I, q⟩ := h; exact ⟨a, b, I.unwish.ofPn.wish _, q⟩
  | cont => obtain ⟨a, b, I, q⟩ := h; exact ⟨a, b, I.unwish.ofPn.wish _, q⟩
  | ret u => obtain ⟨v, a, b, I, r, q⟩ := h; exact ⟨v, a, b, I.unwish.ofPn.wish _, r, q⟩
theorem ps_try {X : Cx} {E : XK} {body : List Stmt} {b₀ : Stmt} {suite : List Stmt} {x n : Str} {i : Nat} {CE : Addr} {tb : XK → TS} {th : TS} {np hpos pos : Pos} (Dx : DefCx X) (h0 : X.hx = none)
    (hb : ∀ (E1 : XK) (pn : List (Addr × Obj)), PSs (Xw (X.pin pn) E1) body (tb E1)) (hg : Gl X x) (hm : X.mg x = some (.ref CE)) (hN : X.N.Nodup) (hi : X.N[i]? = some n) (hl : X.env.scope.names.lookup n = some .local)
    (hh : ∀ (a : Addr) (o : Obj) (pn : List (Addr × Obj)), PSs (hdCx (X.pin pn) a o) (b₀ :: suite) th) (hdb : (x == ("__debug__" : Str)) = false := by decide) :
    PS (Xw X E) (.Try body [.ExceptHandler (some (.Name x np)) (some n) (b₀ :: suite) hpos] [] [] pos) (tTry X.K X.N.length i CE tb th) := by
  constructor
  intro pins s σ H D I h
  obtain ⟨E1, hq, hE⟩ := h
  have I0 := I.unwish
  refine wpAny_Try_except (wpAny_mono (hb E1 (X.pn ++ pins) [] s σ H D (I0.toPn.wish _) hq) (fun f s1 q => ?_) fun e s1 hx => ?_)
  · have q' : SP (Xw X E) pins D f s1 := q.ofPn
    cases f with
    | next => exact wpAny_execs_nil q'
    | brk => exact q'
    | cont => exact q'
    | ret u => exact q'
  · obtain ⟨pins', σ', H', s', a, C, H1, B, f, rfl, I1, q, os, bare, un, hok, air, hf, b1, b2⟩ := hx
    obtain ⟨C', ec, hsub, hth⟩ := hE _ _ q
    cases ec
    have hfr := I1.ok.frames
    have stk : (X.pin (X.pn ++ pins)).stack = X.env :: X.outer := Dx.stk
    rw [stk] at hfr air
    have newA : s'.heap.get? a = none := by
      cases z : s'.heap.get? a with
      | none => rfl
      | some oa =>
        obtain ⟨_, hen, hl', vs, he, _⟩ := air
        by_cases hm : a ∈ frs (X.env :: X.outer)
        · obtain ⟨_, o, ho, nf⟩ := hl'.mem hm
          exact absurd rfl (he.no_field ho nf)
        · obtain ⟨o', z'⟩ := b1 a oa z (by rw [stk]; exact hm)
          rw [hen] at z'; cases z'
    have hn1 : H1 a = none := by
      cases z : H1 a with
      | none => rfl
      | some u =>
        obtain ⟨o', z'⟩ := b2 a u z
        rw [air.2.1] at z'; cases z'
    refine air_note hfr Dx.frm air hf fun h2 air2 up2 => ?_
    refine air_mark (s := { s1 with heap := h2 }) (fr := none) air2 fun h3 air3 up3 => ?_
    have upTo : ∀ {h4 : Heap} {x : Option Value}, InAir B h4 (X.env :: X.outer) a (.ref C) x → s1.heap.UpToSlots h4 → Inv (X.pin (X.pn ++ pins)) pins' σ' H1 { s1 with heap := h4 } := fun {h4 x} air4 up4 =>
      I1.call' (s' := { s1 with heap := h4 }) (ch := []) os (by rw [stk] at un b1 ⊢; exact un.air b1 air.1 air4.1 up4 (frames_air air)) (hok.air b2 air.1 air4.1) bare (fun _ z => nomatch z)
    have I3 := upTo air3 (up2.trans up3)
    refine wpAny_handleBy_cons (codeAny_handlers_test (ld_globA (X := X.pin (X.pn ++ pins)) I3 hg hm ?_ hdb)) (by intro z; cases z)
    obtain ⟨vs3, ⟨oe3, ge3, ce3, de3⟩, _⟩ := air3.2.2.2
    have LT : PySem.W.Looks (model X.prog X.w) h3 (typeOf (.ref a)) (.ref C) := ce3.1 ▸ (PySem.W.Looks.ld ge3).andThen .now
    refine (PySem.W.exm_one (K := X.K) I3.kIn LT hsub) _ _ _ _ (fun _ _ z => z) ?_
    refine codeAny_handlers_suite_as ?_
    refine air_mark (s := { s1 with heap := h3 }) (fr := none) air3 fun h4 air4 up4 => ?_
    have I4 := upTo air4 ((up2.trans up3).trans up4)
    obtain ⟨vs4, ⟨oe, ge, ce, de⟩, e2, _⟩ := air4.2.2.2
    have hx : ExcObj C oe := ⟨ce, vs4, de, e2⟩
    have hsA : X.s₀.heap.get? a = none := by
      cases z : X.s₀.heap.get? a with
      | none => rfl
      | some ob =>
        obtain ⟨o', z'⟩ := I1.base.there a ob z (by show a ∉ X.ex; rw [Dx.ex]; simp)
        rw [newA] at z'; cases z'
    have I5 : Inv (X.pin (X.pn ++ pins)) pins' σ' (upd H1 a (frzE oe)) { s1 with heap := h4 } := I4.track (h0 := h4) hn1 ge hsA (fun z => by
        obtain ⟨m, ⟨ol, es, ep, hol, hdl, _⟩, _⟩ := I1.loc
        have hol' : s'.heap.get? X.env.locals = some ol := hol
        rw [← z, newA] at hol'; cases hol') (fun y c e z => by
        obtain ⟨v, ob, e1, _⟩ := I1.cell y c e
        rw [z, newA] at e1; cases e1) fun p hp z => by
        have e1 := (I1.pin p hp).1
        rw [z, newA] at e1; cases e1
    have I6 : Inv (X.pin (X.pn ++ pins)) [] (blank X.N.length) (upd H1 a (frzE oe)) { s1 with heap := h4 } := (I5.weak (σ' := blank X.N.length) (by rw [I5.len]; exact List.length_replicate) fun i v z => (blank_no z).elim).pins_of (fun p hp => nomatch hp)
    have I7 := I6.toHd hx ⟨_, upd_same⟩
    refine store_ok (X := hdCx (X.pin (X.pn ++ pins)) a oe) (i := i) (v := .ref a) I7 hN hi (.inl hl) rfl (fun s8 I8 => ?_) (.inr hl)
    refine wpAny_mono (hh a oe (X.pn ++ pins) [] s8 _ _ _ I8 (hth a oe hn1 hx)) (fun fl s9 q9 => ?_) fun _ _ z => z.elim
    have back : ∀ {σ9 : St} {H9 : Hp}, Inv (hdCx (X.pin (X.pn ++ pins)) a oe) [] σ9 H9 s9 → (∀ s10, Inv (Xw X E) pins (blank X.N.length) H9 s10 → SP (Xw X E) pins D fl s10) →
        wpAny (model X.prog X.w) X.A (do bindName X.env n .none; unbindBehindTheSuite X.env n hpos) (fun _ s10 => SP (Xw X E) pins D fl s10) (Xw X E).xe s9 := fun {σ9 H9} I9 k => by
      have I10 : Inv X pins σ9 H9 s9 := (I9.ofHd (X := X.pin (X.pn ++ pins)) I1.ok.hd h0 I1.ok.hnd).ofPn
      obtain ⟨m, hn, _⟩ := I10.loc
      refine wpAny_nameGoes hl hn (by rw [I10.ok.kind]; rfl) fun h' m' hn' hs' => k _ ((I10.forget hn' hs').wish _)
    cases fl with
    | next => obtain ⟨σ9, H9, I9, q9⟩ := q9; exact back I9 fun s10 J => ⟨_, _, J, q9⟩
    | brk => obtain ⟨σ9, H9, I9, q9⟩ := q9; exact back I9 fun s10 J => ⟨_, _, J, q9⟩
    | cont => obtain ⟨σ9, H9, I9, q9⟩ := q9; exact back I9 fun s10 J => ⟨_, _, J, q9⟩
    | ret u => obtain ⟨v, σ9, H9, I9, r9, q9⟩ := q9; exact back I9 fun s10 J => ⟨v, _, _, J, r9, q9⟩
end L2
set_option Elab.async false
set_option linter.all false
set_option maxRecDepth 100000
namespace L2
open PySem PySem.Spec PyProof.Rows
theorem closure_go {env : Env} : ∀ (l : List (Str × NameKind)) (cs : List (Str × Addr)), (∀ n, (n, NameKind.free) ∈ l → ∃ c, env.cells.lookup n = some c) →
    ∃ cl, (forIn l cs (fun (x : Str × NameKind) (r : List (Str × Addr)) => if (x.2 == NameKind.free) = true then (do let y ← cellOf env x.1; pure (ForInStep.yield ((x.1, y) :: r)) : Sem (ForInStep (List (Str × Addr)))) else pure (ForInStep.yield r)) : Sem (List (Str × Addr))) = pure cl ∧
      (∀ n c, cl.lookup n = some c → (env.cells.lookup n = some c ∧ (n, NameKind.free) ∈ l) ∨ cs.lookup n = some c) ∧ (∀ n, ((n, NameKind.free) ∈ l ∨ (cs.lookup n).isSome = true) → (cl.lookup n).isSome = true)
  | [], cs, _ => ⟨cs, rfl, fun n c h => .inr h, fun n h => by
      rcases h with h | h
      · exact nomatch h
      · exact h⟩
  | (n, k) :: r, cs, h => by
    by_cases hk : k = .free
    · subst hk
      obtain ⟨c, hc⟩ := h n List.mem_cons_self
      obtain ⟨cl, e, h1, h2⟩ := closure_go r ((n, c) :: cs) fun m hm => h m (List.mem_cons_of_mem _ hm)
      refine ⟨cl, ?_, fun m d hm => ?_, fun m hm => ?_⟩
      · rw [List.forIn_cons]
        simp only [beq_self_eq_true, if_true]
        have hce : cellOf env n = pure c := by unfold cellOf; rw [hc]
        rw [hce]
        exact e
      · rcases h1 m d hm with q | q
        · exact .inl ⟨q.1, List.mem_cons_of_mem _ q.2⟩
        · rw [List.lookup_cons] at q
          split at q
          · rename_i z
            have z' : m = n := by simpa using z
            cases q
            subst z'
            exact .inl ⟨hc, List.mem_cons_self⟩
          · exact .inr q
      · refine h2 m ?_
        rcases hm with hm | hm
        · rcases List.mem_cons.mp hm with z | z
          · have z' : m = n := congrArg Prod.fst z
            subst z'
            refine .inr ?_
            rw [List.lookup_cons]; simp
          · exact .inl z
        · refine .inr ?_
          rw [List.lookup_cons]
          split
          · rfl
          · exact hm
    · obtain ⟨cl, e, h1, h2⟩ := closure_go r cs fun m hm => h m (List.mem_cons_of_mem _ hm)
      refine ⟨cl, ?_, fun m d hm => ?_, fun m hm => h2 m ?_⟩
      · rw [List.forIn_cons]
        have hb : (k == NameKind.free) = false := by simpa using hk
        simp only [hb, Bool.false_eq_true, if_false]
        exact e
      · rcases h1 m d hm with q | q
        · exact .inl ⟨q.1, List.mem_cons_of_mem _ q.2⟩
        · exact .inr q
      · rcases hm with hm | hm
        · rcases List.mem_cons.mp hm with z | z
          · exact absurd (congrArg Prod.snd z).symm hk
          · exact .inl z
        · exact .inr hm
theorem closure_ok {scope : Scope} {env : Env} (h : ∀ n, (n, NameKind.free) ∈ scope.names → ∃ c, env.cells.lookup n = some c) :
    ∃ cl, closureFor scope env = pure cl ∧ (∀ n c, cl.lookup n = some c → env.cells.lookup n = some c ∧ (n, NameKind.free) ∈ scope.names) ∧ (∀ n, (n, NameKind.free) ∈ scope.names → (cl.lookup n).isSome = true) := by
  obtain ⟨cl, e, h1, h2⟩ := closure_go scope.names [] h
  refine ⟨cl, ?_, fun n c q => (h1 n c q).elim id fun z => by simp at z, fun n q => h2 n (.inl q)⟩
  unfold closureFor
  exact (congrArg (fun z : Sem (List (Str × Addr)) => z >>= pure) e).trans rfl
theorem lookup_relabel {env : Env} : ∀ {names : List (Str × NameKind)} {x : Str} {k : NameKind}, (names.map fun (n, k) => if (k == NameKind.free && env.scope.kind == .function && env.kindOf n == some .cell) then (n, NameKind.cell) else (n, k)).lookup x = some k →
    names.lookup x = some k ∨ (k = .cell ∧ names.lookup x = some .free)
  | [], _, _, h => by simp at h
  | (n, k') :: r, x, k, h => by
    have ih := @lookup_relabel env r x k
    rw [List.map_cons] at h
    by_cases hc : (k' == NameKind.free && env.scope.kind == .function && env.kindOf n == some .cell) = true
    · have h' : List.lookup x ((n, NameKind.cell) :: r.map fun (n, k) => if (k == NameKind.free && env.scope.kind == .function && env.kindOf n == some .cell) then (n, NameKind.cell) else (n, k)) = some k := by
        rw [← h]; dsimp only; rw [if_pos hc]
      rw [List.lookup_cons] at h' ⊢
      cases hx : x == n with
      | true =>
        rw [hx] at h'
        cases h'
        simp only [Bool.and_eq_true, beq_iff_eq] at hc
        rw [hc.1.1]
        exact .inr ⟨rfl, rfl⟩
      | false => rw [hx] at h'; exact ih h'
    · have h' : List.lookup x ((n, k') :: r.map fun (n, k) => if (k == NameKind.free && env.scope.kind == .function && env.kindOf n == some .cell) then (n, NameKind.cell) else (n, k)) = some k := by
        rw [← h]; dsimp only; rw [if_neg hc]
      rw [List.lookup_cons] at h' ⊢
      cases hx : x == n with
      | true => rw [hx] at h'; exact .inl h'
      | false => rw [hx] at h'; exact ih h'
noncomputable abbrev compCx (X : Cx) (scope : Scope) (Nc : List Str) (cl : List (Str × Addr)) (C : Addr) (fp : List Addr) (pn : List (Addr × Obj)) (s₀ : Shared) (H₀ : Hp) : Cx :=
  { X with env := compEnvC scope cl C X.env, N := Nc, s₀ := s₀, H₀ := H₀, outer := X.stack, stack := X.stack, ex := fp, fn := fun _ => false, pn := pn, xe := fun _ _ => False }
noncomputable def capOk (N : List Str) (scope : Scope) (p : Str × Option Nat) : Bool := match p.2 with
  | none => true
  | some k => decide (N[k]? = some p.1) && decide (scope.names.lookup p.1 = some .free)
structure CompSc (N : List Str) (fsc : Scope) (scope : Scope) (Nc : List Str) (caps : List (Option Nat)) (j : Nat) (x : Str) : Prop where
  kind : scope.kind = .function
  nocell : ∀ y ∈ scope.names, y.2 ≠ .cell
  loc : ∀ y ∈ scope.names, y.2 = .local → scope.names.lookup y.1 = some .local
  fre : ∀ y ∈ scope.names, y.2 = .free → fsc.names.lookup y.1 = some .cell ∨ fsc.names.lookup y.1 = some .free
  len : caps.length = Nc.length
  nd : Nc.Nodup
  cap : (Nc.zip caps).all (capOk N scope) = true
  var : Nc[j]? = some x
  slot : caps[j]? = some none
  own : scope.names.lookup x = some .local
noncomputable def capOf (caps : List (Option Nat)) (σ : St) : St := caps.map fun c => c.bind fun k => (σ[k]?).join
theorem capOf_get {caps : List (Option Nat)} {σ : St} {i : Nat} {v : V} (h : (capOf caps σ)[i]? = some (some v)) : ∃ k, caps[i]? = some (some k) ∧ σ[k]? = some (some v) := by
  unfold capOf at h
  rw [List.getElem?_map] at h
  cases e : caps[i]? with
  | none => rw [e] at h; cases h
  | some c =>
    rw [e] at h
    cases c with
    | none => cases h
    | some k =>
      refine ⟨k, rfl, ?_⟩
      have h' : (σ[k]?).join = some v := Option.some.inj h
      cases e2 : σ[k]? with
      | none => rw [e2] at h'; cases h'
      | some y => rw [e2] at h'; cases y with
        | none => cases h'
        | some z => cases h'; rfl
structure PF (X : Cx) (ifs : List Expr) (t : TT) : Prop where
  run : ∀ (pins : List (Addr × Obj)) (s : Shared) (σ : St) (H : Hp) (Q : Bool → Hp → Prop), Inv X pins σ H s → t σ H Q →
    wpAny (model X.prog X.w) X.A (forIn ifs true fun c r => if r = true then do let ok ← isTrue c X.env (eval c X.env); pure (ForInStep.yield ok) else pure (ForInStep.yield r)) (TP X pins σ Q) X.xe s
instance {X : Cx} {ifs : List Expr} {t : TT} : CoeFun (PF X ifs t) (fun _ => ∀ (pins : List (Addr × Obj)) (s : Shared) (σ : St) (H : Hp) (Q : Bool → Hp → Prop), Inv X pins σ H s → t σ H Q →
    wpAny (model X.prog X.w) X.A (forIn ifs true fun c r => if r = true then do let ok ← isTrue c X.env (eval c X.env); pure (ForInStep.yield ok) else pure (ForInStep.yield r)) (TP X pins σ Q) X.xe s) := ⟨fun h => h.run⟩
noncomputable def tYes : TT := fun _ H Q => Q true H
theorem pf_nil {X : Cx} : PF X [] tYes := .mk fun _ _ _ H _ I h => wpAny_tests_nil ⟨H, I, h⟩
theorem pf_one {X : Cx} {c : Expr} {t : TT} (h : PT X c t) : PF X [c] t := .mk fun pins s σ H Q I hw => wpAny_tests_one (h pins s σ H Q I hw)
theorem comp_loop {prog : Program} {w : World} {A : Around} {R : Result → Shared → Prop} {s : Shared} {elt target iter : Expr} {ifs : List Expr} {scope : Scope} {pos : Pos} {it acc : Value} {env : Env} (I : Nat → Shared → Prop)
    (turn : ∀ n s, I n s → wpAny (model prog w) A (pyNext it) (fun r s1 => match r with
      | none => R (.ok .next) s1
      | some v => wpAny (model prog w) A (letOwnedTupleGo target it v) (fun _ s2 => wpAny (model prog w) A (assign target env v) (fun _ s3 =>
          wpAny (model prog w) A (forIn ifs true fun c r => if r = true then do let ok ← isTrue c env (eval c env); pure (ForInStep.yield ok) else pure (ForInStep.yield r)) (fun ok s4 =>
            if ok = true then wpAny (model prog w) A (eval elt env) (fun x s5 => wpAny (model prog w) A (call (.builtin "list.append") [acc, x]) (fun _ s6 => ∃ m, m < n ∧ I m s6) (fun _ _ => False) s5) (fun _ _ => False) s4
            else ∃ m, m < n ∧ I m s4) (fun _ _ => False) s3) (fun _ _ => False) s2) (fun _ _ => False) s1) (fun _ _ => False) s)
    (n : Nat) (h : I n s) : codeAny (model prog w) A (.compLoop (.ListComp elt [⟨target, iter, ifs, 0⟩] scope pos) 0 it acc env) R s := by
  refine codeAny_loop rfl I (fun n s hI => ?_) n h
  show wpAny _ A ((compTurn (.ListComp elt [⟨target, iter, ifs, 0⟩] scope pos) 0 it acc env).onRaise (fun x => do noteFrame x env; theTreesLotGoes x)) _ _ s
  refine wpAny_noted (wpAny_noRaise ?_)
  rw [compTurn_list]
  refine wpAny_bind (wpAny_standAt (wpAny_bind (thn (turn n s hI) fun r s1 h1 => ?_)))
  cases r with
  | none => exact wpAny_pure h1
  | some v =>
    refine wpAny_bind (thn h1 fun _ s2 h2 => wpAny_bind (thn h2 fun _ s3 h3 => wpAny_bind (thn h3 fun ok s4 h4 => ?_)))
    cases ok with
    | false => exact wpAny_pure ⟨rfl, h4⟩
    | true => exact wpAny_bind (wpAny_bind (thn h4 fun x s5 h5 => wpAny_bind (thn h5 fun _ s6 h6 => wpAny_pure (wpAny_pure ⟨rfl, h6⟩))))
noncomputable def CompW (J : It) (caps : List (Option Nat)) (j : Nat) (ti : TT) (te : TE) (σ : St) (H1 : Hp) (D : Addr) (Q : VK) : Prop :=
  ∃ W : Nat → Nat → Hp → Prop, (∃ m, W 0 m (upd H1 D (.lst []))) ∧ ∀ i m H2, W i m H2 →
    (J.stop i H2 ∧ Q (.ref D) H2) ∨ (J.go i H2 ∧ ∀ x H3, J.yld i H2 x H3 → ti ((capOf caps σ).set j (some x)) H3 fun b H4 => if b = true then te ((capOf caps σ).set j (some x)) H4 fun v H5 =>
      ∃ ys, H5 D = some (.lst ys) ∧ ys.length < sizeLine ∧ ∃ m', m' < m ∧ W (i + 1) m' (upd H5 D (.lst (ys ++ [v]))) else ∃ m', m' < m ∧ W (i + 1) m' H4)
noncomputable def tComp (wi : TI) (caps : List (Option Nat)) (j : Nat) (ti : TT) (te : TE) : TE := fun σ H Q => wi σ H fun J H1 => ∀ D, H1 D = none → CompW J caps j ti te σ H1 D Q
end L2
set_option Elab.async false
set_option linter.all false
set_option maxRecDepth 100000
set_option exponentiation.threshold 5000
namespace L2
open PySem PySem.Spec PyProof.Rows
structure Own (P : Program) (w : World) (K : PySem.W.Frag) (mg : Str → Option Value) (base : Heap) (c : Bool) (k : Nat) (x : Str) (ps : List Str) (sp : Sp) : Prop where
  ex : ∃ f fd, FnOk P w K mg base (CX1 P w) c k f fd ps sp ∧ Binds K fd ps [] ∧ PySem.W.keepIn K (.ref f) = true ∧ mg x = some (.ref f)
section
variable {X : Cx} {c : Bool} {k : Nat} {ps : List Str} {sp : Sp} {E : XK} {x : Str} {p pos : Pos} {e : Expr} {es : List Expr} {t : TA}
theorem pe_own (O : Own X.prog X.w X.K X.mg X.base c k x ps sp) (hr : Room k X.A) (hx : Passes (CX1 X.prog X.w) X E) (ha : PA X (e :: es) t) (hca : c = true → X.calm = true := by first | exact fun h => h | exact fun _ => rfl | exact fun h => nomatch h) (hg : Gl X x := by rfl)
    (hdb : (x == ("__debug__" : Str)) = false := by decide) (he : starEach (e :: es) X.env = (false, eval e X.env) :: starEach es X.env := by rfl) (hpl : (backTo pos (starEach es X.env)).any (·.1) = false := by rfl) :
    PE X (.Call (.Name x p) (e :: es) [] pos) (tCall sp [] E t) := by
  obtain ⟨f, fd, F, hb, hk, hm⟩ := O.ex
  exact pe_call F hca hr hg hm hk hb .nil hx ha hdb he hpl
end
noncomputable def CMulA (i j : Int) : Prop := CMul i j ∨ (i.natAbs < 2 ^ 1000 ∧ j.natAbs < 2 ^ 1000)
theorem CMulA.ok {i j : Int} (h : CMulA i j) : IntMulOk i j := by
  rcases h with h | ⟨h1, h2⟩
  · exact h.ok
  · exact .of_bits (Nat.le_trans (intBits_le h1) (by decide)) (Nat.le_trans (intBits_le h2) (by decide))
noncomputable def CDivA (_ j : Int) : Prop := 0 < j ∧ j < 2 ^ 1000
section
variable {X : Cx}
theorem op_mulA : OpR X (binaryOp .Mult) (rI CMulA fun i j => .int (i * j)) := opI fun _ _ _ _ _ _ _ hc q => mul_int q hc.ok
theorem op_fdivA : OpR X (binaryOp .FloorDiv) (rI CDivA fun i j => .int (i / j)) := opI fun i j _ _ _ _ _ hc q => by
  obtain ⟨h1, h2⟩ := hc
  refine floordiv_int (by omega) (by rw [Int.fdiv_eq_ediv_of_nonneg _ (Int.le_of_lt h1)]; exact q) (.inl (PyProof.noPylong_of_log2 ?_))
  have h3 : j.natAbs < 2 ^ 1000 := by
    have e : ((j.natAbs : Nat) : Int) = j := by omega
    have h4 : ((j.natAbs : Nat) : Int) < ((2 ^ 1000 : Nat) : Int) := by rw [e, ← two_pow_cast]; exact h2
    exact Int.ofNat_lt.mp h4
  by_cases h0 : j.natAbs = 0
  · rw [h0]; decide
  · exact Nat.lt_trans ((Nat.log2_lt h0).mpr h3) (by decide)
theorem call_isi : CallR X (.builtin "isinstance") (fun xs H Q => ∃ x c t b, xs = [x, c] ∧ TyOf X.K H x t ∧ (∀ u, RelV c u → PySem.W.kitOne X.K t u = some b) ∧ Q (.bl b) H) := by
  intro pins s σ H xs us Q I r h
  obtain ⟨x, c, t, b, rfl, ty, hk, q⟩ := h
  obtain ⟨u, w', rfl, rx, rc⟩ := vals2 r
  exact isinst_ok I rx ty (hk w' rc) fun tk => ⟨.bl b, H, I.tok tk, rfl, q⟩
theorem hd1 {pins : List (Addr × Obj)} {σ : St} {H : Hp} {s : Shared} (I : Inv X pins σ H s) (o : Obj) : HdAt X.A.in1 (s.heap.push o) := I.hdAt.keeps fun a o' _ q => Heap.get?_push_of_some _ q
theorem hdNew {pins : List (Addr × Obj)} {σ : St} {H : Hp} {s : Shared} (I : Inv X pins σ H s) : X.A.in1.handled ≠ some (.ref s.heap.objs.size) := I.hdNe (I.hok.fresh (Nat.le_refl _))
theorem bools_at {ks : List Bool} : ∀ {us : List Value}, Vals (ks.map V.bl) us → us = ks.map Value.bool := by
  induction ks with
  | nil => intro us r; cases r; rfl
  | cons k ks ih =>
    intro us r
    cases r with
    | cons a b => cases (show _ = Value.bool k from a); rw [ih b]; rfl
theorem all_range (ks : List Bool) : (List.range ks.length).all (fun i => ks.getD i true) = ks.all id := by
  induction ks with
  | nil => rfl
  | cons k r ih =>
    rw [List.length_cons, List.range_succ_eq_map, List.all_cons, List.all_cons, List.all_map]
    have e : (List.range r.length).all ((fun i => (k :: r).getD i true) ∘ Nat.succ) = (List.range r.length).all fun i => r.getD i true := by
      congr 1
    rw [e, ih]
    rfl
theorem call_all : CallR X (.builtin "all") (fun xs H Q => ∃ (p : Addr) (ks : List Bool), xs = [.ref p] ∧ SqL X.K H p (ks.map V.bl) ∧ Q (.bl (ks.all id)) H) := by
  intro pins s σ H xs us Q I r h
  obtain ⟨p, ks, rfl, hq, q⟩ := h
  obtain ⟨u, rfl, rx⟩ := vals1 r
  cases rx
  obtain ⟨its, rv, pl, hz⟩ := I.list hq
  have e := bools_at rv
  subst e
  have hne : p ≠ s.heap.objs.size := fun z => by
    obtain ⟨o, ho, _⟩ := pl.isList
    exact absurd (Heap.lt_size ho) (by rw [z]; exact Nat.lt_irrefl _)
  refine call_all_walk (wpAny_pyIter_list pl.isList ?_)
  refine ⟨s.heap.objs.size, _, _, _, _, _, fun i => ks.getD i true, rfl, walks_list (A := X.A.in1) s.heap.objs.size p hne (hdNew I) (ks.map Value.bool).toArray, ⟨⟨_, Heap.get?_push_size _ rfl, rfl, rfl⟩, ?_, hd1 I _⟩, fun i v s' Q' E' hv hQ => ?_, fun h' tk k => ?_⟩
  · obtain ⟨o, ho, r'⟩ := pl.isList
    exact ⟨o, Heap.get?_push_of_some _ ho, r'⟩
  · have hv' : (ks.map Value.bool)[i]? = some v := by simpa using hv
    rw [List.getElem?_map] at hv'
    cases ek : ks[i]? with
    | none => rw [ek] at hv'; cases hv'
    | some b =>
      rw [ek] at hv'
      cases hv'
      refine wpAny_truthy_bool ?_
      have : ks.getD i true = b := by simp [List.getD, ek]
      rw [← this]
      exact hQ
  · refine ⟨.bl (ks.all id), H, ?_, ?_, q⟩
    · refine I.kept fun b o z => k b o ?_ (Heap.get?_push_of_some _ z)
      intro hm
      have : b = s.heap.objs.size := by simpa using hm
      exact absurd (Heap.lt_size z) (by rw [this]; exact Nat.lt_irrefl _)
    · show Value.bool _ = Value.bool _
      rw [List.size_toArray, List.length_map, all_range]
theorem ints_at {ns : List Int} : ∀ {us : List Value}, Vals (ns.map V.int) us → ∀ (i : Nat) (v : Value), us[i]? = some v → ∃ t, v = Value.int (ns.getD i 0) t := by
  induction ns with
  | nil => intro us r; cases r; intro i v h; simp at h
  | cons n ns ih =>
    intro us r
    cases r with
    | cons a b =>
      intro i v h
      cases i with
      | zero =>
        obtain ⟨t, ht⟩ := (show ∃ t, _ = Value.int n t from a)
        have : v = Value.int n t := by rw [← ht]; exact (Option.some.inj (by simpa using h)).symm
        exact ⟨t, this⟩
      | succ i =>
        obtain ⟨t, ht⟩ := ih b i v (by simpa using h)
        exact ⟨t, by simpa using ht⟩
theorem preSum_take (l : List Int) : ∀ j, preSum (fun i => l.getD i 0) j = (l.take j).sum
  | 0 => by simp [preSum]
  | j + 1 => by
    rw [preSum, preSum_take l j]
    by_cases h : j < l.length
    · have e : l.take (j + 1) = l.take j ++ [l[j]] := by rw [List.take_add_one, List.getElem?_eq_getElem h]; rfl
      have e2 : l.getD j 0 = l[j] := by simp [List.getD, h]
      rw [e, List.sum_append, e2]
      simp
    · rw [List.take_of_length_le (by omega), List.take_of_length_le (by omega)]
      have : l.getD j 0 = 0 := by simp [List.getD, List.getElem?_eq_none (Nat.le_of_not_lt h)]
      omega
theorem call_sum : CallR X (.builtin "sum") (fun xs H Q => ∃ (p : Addr) (ns : List Int), xs = [.ref p] ∧ SqL X.K H p (ns.map V.int) ∧ Q (.int ns.sum) H) := by
  intro pins s σ H xs us Q I r h
  obtain ⟨p, ns, rfl, hq, q⟩ := h
  obtain ⟨u, rfl, rx⟩ := vals1 r
  cases rx
  obtain ⟨its, rv, pl, hz⟩ := I.list hq
  have hl := rv.length
  rw [List.length_map] at hl
  have hne : p ≠ s.heap.objs.size := fun z => by
    obtain ⟨o, ho, _⟩ := pl.isList
    exact absurd (Heap.lt_size ho) (by rw [z]; exact Nat.lt_irrefl _)
  refine call_sum_walkG (wpAny_pyIter_list pl.isList ?_)
  refine ⟨s.heap.objs.size, _, _, _, _, _, fun i => ns.getD i 0, rfl, walks_list (A := X.A.in1) s.heap.objs.size p hne (hdNew I) its.toArray, ⟨⟨_, Heap.get?_push_size _ rfl, rfl, rfl⟩, ?_, hd1 I _⟩, fun b hb => ?_, fun i v hv => ints_at rv i v (by simpa using hv), fun h' tk t' k => ?_⟩
  · obtain ⟨o, ho, r'⟩ := pl.isList
    exact ⟨o, Heap.get?_push_of_some _ ho, r'⟩
  · rw [Heap.size_push]
    rcases List.mem_append.mp hb with hb | hb
    · rcases List.mem_cons.mp hb with rfl | hb
      · exact Nat.lt_succ_self _
      · obtain rfl := List.mem_singleton.mp hb
        obtain ⟨o, ho, _⟩ := pl.isList
        exact Nat.lt_succ_of_lt (Heap.lt_size ho)
    · unfold hdA at hb
      split at hb
      · rename_i a ha
        obtain rfl := List.mem_singleton.mp hb
        rcases I.hdAt with z | ⟨a', o, vs, z, ho, _⟩
        · have ha' : X.A.handled = some (.ref b) := ha
          rw [z] at ha'; cases ha'
        · have ha' : X.A.handled = some (.ref b) := ha
          rw [z] at ha'; cases ha'
          exact Nat.lt_succ_of_lt (Heap.lt_size ho)
      · exact nomatch hb
  · refine ⟨.int ns.sum, H, ?_, ⟨t', ?_⟩, q⟩
    · refine I.kept fun b o z => k b o ?_ (Heap.get?_push_of_some _ z)
      intro hm
      have : b = s.heap.objs.size := by simpa using hm
      exact absurd (Heap.lt_size z) (by rw [this]; exact Nat.lt_irrefl _)
    · rw [preSum_take, List.size_toArray, ← hl, List.take_of_length_le (Nat.le_refl _)]
noncomputable def eqVs : List V → List V → Bool
  | [], [] => true
  | x :: xs, y :: ys => eqV x y && eqVs xs ys
  | _, _ => false
theorem eqVs_len : ∀ {xs ys : List V}, xs.length ≠ ys.length → eqVs xs ys = false
  | [], [], h => absurd rfl h
  | [], _ :: _, _ => rfl
  | _ :: _, [], _ => rfl
  | x :: xs, y :: ys, h => by rw [eqVs, eqVs_len (fun e => h (by simp [e])), Bool.and_false]
theorem eqVs_all : ∀ {xs ys : List V}, xs.length = ys.length → (List.range xs.length).all (fun i => eqV (xs.getD i .non) (ys.getD i .non)) = eqVs xs ys
  | [], [], _ => rfl
  | x :: xs, y :: ys, h => by
    have ih := eqVs_all (xs := xs) (ys := ys) (by simpa using h)
    rw [List.length_cons, List.range_succ_eq_map, List.all_cons, List.all_map, eqVs, ← ih]
    rfl
theorem vals_getD {xs : List V} {us : List Value} (r : Vals xs us) (f : xs.all flatV = true) {i : Nat} {u : Value} (h : us[i]? = some u) : RelV (xs.getD i .non) u ∧ flatV (xs.getD i .non) = true := by
  have hl := r.length
  have hi : i < xs.length := by rw [hl]; exact (List.getElem?_eq_some_iff.mp h).1
  obtain ⟨u', h', r'⟩ := r.get (i := i) (x := xs[i]) (by simp [hi])
  rw [h] at h'; cases h'
  have e : xs.getD i .non = xs[i] := by simp [List.getD, hi]
  rw [e]
  exact ⟨r', List.all_eq_true.mp f _ (List.getElem_mem hi)⟩
noncomputable def rEqL (K : PySem.W.Frag) : R2 := fun x y H Q => ∃ p q xs ys, x = .ref p ∧ y = .ref q ∧ SqL K H p xs ∧ SqL K H q ys ∧ xs.all flatV = true ∧ ys.all flatV = true ∧ Q (.bl (eqVs xs ys)) H
noncomputable def rNeL (K : PySem.W.Frag) : R2 := fun x y H Q => ∃ p q xs ys, x = .ref p ∧ y = .ref q ∧ SqL K H p xs ∧ SqL K H q ys ∧ xs.all flatV = true ∧ ys.all flatV = true ∧ Q (.bl (!eqVs xs ys)) H
theorem items_eqAt {A : Around} {s : Shared} {xs ys : List V} {us ws : List Value} (r : Vals xs us) (r' : Vals ys ws) (f : xs.all flatV = true) (f' : ys.all flatV = true) (j : Nat) (h1 : j < us.toArray.size) (h2 : j < ws.toArray.size) :
    SeqAt.EqAt A s us.toArray[j] ws.toArray[j] (eqV (xs.getD j .non) (ys.getD j .non)) := by
  obtain ⟨a1, a2⟩ := vals_getD r f (i := j) (u := us.toArray[j]) (by rw [List.getElem_toArray]; exact List.getElem?_eq_getElem _)
  obtain ⟨b1, b2⟩ := vals_getD r' f' (i := j) (u := ws.toArray[j]) (by rw [List.getElem_toArray]; exact List.getElem?_eq_getElem _)
  exact eqAt_V a1 b1 a2 b2
theorem op_eqL (hu : X.A.units < cLine) : OpR X (compareOp .Eq) (rEqL X.K) := by
  intro pins s σ H x y v u Q I rx ry h
  obtain ⟨p, q, xs, ys, rfl, rfl, hx, hy, fx, fy, k⟩ := h
  cases rx
  cases ry
  obtain ⟨us, r, pl, _⟩ := I.list hx
  obtain ⟨ws, r', pl', _⟩ := I.list hy
  have l1 := r.length
  have l2 := r'.length
  by_cases hl : xs.length = ys.length
  · refine SeqAt.eq_listAt (e := fun j => eqV (xs.getD j .non) (ys.getD j .non)) pl.isList pl'.isList (by simp [← l1, ← l2, hl]) hu (fun j h1 h2 => items_eqAt r r' fx fy j h1 h2) ⟨.bl _, H, I, rfl, ?_⟩
    rw [List.size_toArray, ← l1, eqVs_all hl]
    exact k
  · refine SeqAt.eq_list_lengthsAt pl.isList pl'.isList (by simp [← l1, ← l2, hl]) hu ⟨.bl _, H, I, rfl, ?_⟩
    rw [eqVs_len hl] at k
    exact k
theorem op_neL (hu : X.A.units < cLine) : OpR X (compareOp .NotEq) (rNeL X.K) := by
  intro pins s σ H x y v u Q I rx ry h
  obtain ⟨p, q, xs, ys, rfl, rfl, hx, hy, fx, fy, k⟩ := h
  cases rx
  cases ry
  obtain ⟨us, r, pl, _⟩ := I.list hx
  obtain ⟨ws, r', pl', _⟩ := I.list hy
  have l1 := r.length
  have l2 := r'.length
  by_cases hl : xs.length = ys.length
  · refine SeqAt.RcNeAt.lists (e := fun j => eqV (xs.getD j .non) (ys.getD j .non)) pl.isList pl'.isList (by simp [← l1, ← l2, hl]) hu (fun j h1 h2 => items_eqAt r r' fx fy j h1 h2) _ _ _ _ ⟨.bl _, H, I, rfl, ?_⟩
    rw [List.size_toArray, ← l1, eqVs_all hl]
    exact k
  · refine SeqAt.RcNeAt.lists_lengths pl.isList pl'.isList (by simp [← l1, ← l2, hl]) hu _ _ _ _ ⟨.bl _, H, I, rfl, ?_⟩
    rw [eqVs_len hl] at k
    exact k
noncomputable def rRepT (K : PySem.W.Frag) : R2 := fun x y H Q => ∃ l k xs, x = .ref l ∧ y = .int k ∧ SqT K H l xs ∧ xs ≠ [] ∧ 1 < k ∧ k < 2 ^ 63 ∧ xs.length * k.toNat ≤ sizeLine ∧ ∀ p, H p = none → Q (.ref p) (upd H p (.tup (List.replicate k.toNat xs).flatten))
noncomputable def rIndex : V → List V → Hp → VK → Prop := fun x vs H Q => ∃ l xs y j, x = .ref l ∧ vs = [y] ∧ H l = some (.lst xs) ∧ xs.all flatV = true ∧ flatV y = true ∧ xs.findIdx? (fun z => eqV z y) = some j ∧ Q (.int j) H
theorem mt_index : MtM X "list.index" rIndex := by
  intro pins s σ H x vs v us Q I rx rv h
  obtain ⟨l, xs, y, j, rfl, rfl, hH, fx, fy, hj, q⟩ := h
  cases rx
  obtain ⟨u, rfl, ru⟩ := rv.one
  obtain ⟨z, its, n, r, hl, e⟩ := I.lstM hH
  obtain ⟨hlt, hp, hbef⟩ := List.findIdx?_eq_some_iff_getElem.mp hj
  have get : ∀ (i : Nat) (h : i < xs.length), ∃ (h' : i < its.length), RelV xs[i] its[i] := fun i h => by
    obtain ⟨w, e1, e2⟩ := r.get (i := i) (x := xs[i]) (by simp [h])
    obtain ⟨h', e3⟩ := List.getElem?_eq_some_iff.mp e1
    exact ⟨h', by rw [e3]; exact e2⟩
  have fl : ∀ (i : Nat) (h : i < xs.length), flatV xs[i] = true := fun i h => List.all_eq_true.mp fx _ (List.getElem_mem h)
  obtain ⟨hj', rj⟩ := get j hlt
  refine call_meets PySem.F.slot_list_index ⟨_, e, rfl⟩ PySem.F.entry_list_index (PySem.F.args_list_index_2 _ _)
    (SeqAt.list_indexAt l its.toArray n none #[] u (eqU y) j (by simpa using hj') (by have := sizeLine_eq; omega) ?_ ?_) ⟨e, fun w hw => mem_eqAt ru fy r fx w (by simpa using hw), ⟨.int j, H, I.tok _, ⟨_, rfl⟩, q⟩⟩
  · rw [List.getElem_toArray, eqU_of rj (fl j hlt)]
    exact hp
  · intro i _ hi
    have hi' : i < xs.length := by omega
    obtain ⟨_, ri⟩ := get i hi'
    rw [List.getElem_toArray, eqU_of ri (fl i hi')]
    have := hbef i hi
    simpa using this
end
end L2
set_option Elab.async false
set_option linter.all false
set_option maxRecDepth 100000
namespace L2
open PySem PySem.Spec PyProof.Rows
structure ExcK (K : PySem.W.Frag) (C : Addr) : Prop where
  ga : PySem.W.findIn K (.ref C) "__getattribute__" = some (some (.builtin "BaseException.__getattribute__"))
  na : PySem.W.findIn K (.ref C) "__getattr__" = some none
  ca : PySem.W.findIn K (.ref C) "__class__" = some (some (.builtin "object.__class__"))
  cg : PySem.W.specialIn K (.builtin "object.__class__") "__get__" = some (some (.builtin "getset_descriptor.__get__"))
  ct : PySem.W.takesIn K (.builtin "object.__class__") = some true
  mo : PySem.W.mroIn K C (.type "object") = some true
  mb : PySem.W.mroIn K C (.type "BaseException") = some true
  hd : PySem.W.hasDictIn K C = true
section
open PySem.W
variable {prog : Program} {w : World} {A : Around} {E : Value → Shared → Prop} {s : Shared} {K : PySem.W.Frag} {x C : Addr} {ox : Obj}
theorem exc_class {Q : Option Value → Shared → Prop} (F0 : ExcK K C) (X : K.In s.heap) (I : PySem.W.InstAt s.heap x ox C none) (h : Q (some (.ref C)) { s with toks := s.toks + 1 }) : wpAny (model prog w) A (getAttr? (.ref x) "__class__") Q E s := by
  obtain ⟨hh, g, d, t, os⟩ := s
  have L0 := I.type (M := model prog w)
  have L1 := looks_findIn (M := model prog w) X F0.ga
  have L2 := looks_findIn (M := model prog w) X F0.na
  have hc : (clsIn K C).isSome = true := by obtain ⟨cd, hc, _⟩ := any_some F0.hd; rw [hc]; rfl
  have hf : findObj K C none "__class__" = some (.bind (.builtin "getset_descriptor.__get__") (.builtin "object.__class__")) := by
    obtain ⟨cd, hc⟩ := Option.isSome_iff_exists.mp hc
    unfold findObj
    rw [hc, Option.bind_some, F0.ca, Option.bind_some]
    simp [F0.cg, F0.ct]
  have L3 := looks_find (M := model prog w) X I hf
  have L4 : Looks (model prog w) hh (isInstance (.ref x) (.type "BaseException")) true := L0.andThen (looks_mroIn X F0.mb)
  unfold getAttr? getAttrBy? getAttrBy
  refine wpAny_bind (wpAny_mkText (wpAny_bind (wpAny_attempt (wpAny_holding (wpAny_bind (L0.at (wpAny_bind (L1.at ?_))))))))
  show wpAny _ _ (if (onTheHeap (Value.ref C) && Value.builtin "BaseException.__getattribute__" == Value.builtin "object.__getattribute__") = true then _ else _) _ _ _
  rw [show (onTheHeap (Value.ref C) && Value.builtin "BaseException.__getattribute__" == Value.builtin "object.__getattribute__") = false from by rw [show (Value.builtin "BaseException.__getattribute__" == Value.builtin "object.__getattribute__") = false from by decide +kernel, Bool.and_false], if_neg Bool.false_ne_true]
  unfold getAttrByItsOwn hookBefore
  refine wpAny_bind ?_
  show wpAny _ _ (typeLookup (.ref C) "__getattr__") _ _ _
  refine L2.at ?_
  refine wpAny_bind (wpAny_attempt (wpAny_holding ?_))
  unfold callGetattribute
  rw [if_neg (by decide)]
  unfold boundAndCalled
  refine wpAny_bind (wpAny_of_eq (PySem.F.attr_ValueError.ga.bind (.ref x)) ?_)
  show wpAny _ _ (call (.builtin "BaseException.__getattribute__") [.ref x, .str "__class__" t]) _ _ _
  refine wpAny_call (codeAny_call_builtin PySem.F.attr_ValueError.ga.plain PySem.F.entry_bexc_ga ?_)
  have hk : builtinKind "BaseException.__getattribute__" = some .slot := by decide +kernel
  have hsplit : splitId "BaseException.__getattribute__" = some ("BaseException", "__getattribute__") := by decide +kernel
  have ha := PySem.F.args_bexc_ga (.ref x) (.str "__class__" t)
  simp only [checkBuiltinCall, hk, hsplit]
  refine wpAny_bind (L4.at ?_)
  simp only [Bool.not_true, Bool.false_eq_true, if_false]
  refine wpAny_of_eq (a := ()) ha ?_
  unfold Builtin.«object.__getattribute__»
  repeat lk
  refine wpAny_run (c := .call (.builtin "getset_descriptor.__get__") ⟨[.builtin "object.__class__", .ref x, .ref C], []⟩) (h := none) (class_get (K := K) (C := C) (ox := ox) (od := none) X I F0.mo ?_) (by intro z; cases z)
  refine wpAny_pure ?_
  refine wpAny_pure ?_
  exact handed_on rfl (wpAny_pure h)
theorem kitx_exc (F0 : ExcK K C) : PySem.W.KitX K (.ref x) (.ref C) (fun h => ∃ o, h.get? x = some o ∧ ExcObj C o) where
  ty := fun M h _ ⟨o, ho, ⟨⟨hc, _⟩, _⟩⟩ => hc ▸ (Looks.ld ho).andThen .now
  it := fun _ _ X _ => by
    obtain ⟨cdD, hcD, _⟩ := any_some F0.hd
    unfold clsIn at hcD
    split at hcD
    · rename_i c' d' cd' sl' ho
      intro A' Q' E' s' k q
      unfold isType loadHead
      exact wpAny_bind (wpAny_loadPart (k _ _ (X _ _ ho)) (wpAny_pure q))
    · cases hcD
  ne := fun h tp dd its n sl X htp => by
    obtain ⟨cdD, hcD, _⟩ := any_some F0.hd
    refine Bool.eq_false_iff.mpr fun q => ?_
    have e : C = tp := Value.ref.inj (beq_iff_eq.mp q)
    subst e
    unfold clsIn at hcD
    split at hcD
    · rename_i c' d' cd' sl' ho
      have z := (X _ _ ho).symm.trans htp
      cases z
    · cases hcD
  ca := fun {prog w A E Q s} X ⟨o, ho, ⟨⟨hc, hdn⟩, vs, hd, _⟩⟩ k => exc_class (ox := o) F0 X ⟨ho, hc, by unfold notCls; rw [hd], by rw [hdn]; trivial⟩ k
end
noncomputable def ExcV (H : Hp) (x : V) (C : Addr) : Prop := ∃ a o, x = .ref a ∧ H a = some (frzE o) ∧ ExcObj C o
theorem call_isiE {X : Cx} : CallR X (.builtin "isinstance") (fun xs H Q => ∃ x c C b, xs = [x, c] ∧ ExcV H x C ∧ ExcK X.K C ∧ (∀ u, RelV c u → PySem.W.kitOne X.K (.ref C) u = some b) ∧ Q (.bl b) H) := by
  intro pins s σ H xs us Q I r h
  obtain ⟨x, c, C, b, rfl, ⟨a, o, rfl, ha, hx⟩, F0, hk, q⟩ := h
  obtain ⟨u, w', rfl, rx, rc⟩ := vals2 r
  cases rx
  exact PySem.W.kia_one (kitx_exc F0) I.kIn ⟨o, (I.hok a _ ha).1, hx⟩ (hk w' rc) (fun z => nomatch z) fun tk => ⟨.bl b, H, I.tok tk, rfl, q⟩
section
end
end L2
set_option Elab.async false
set_option linter.all false
set_option maxRecDepth 100000
namespace L2
open PySem PySem.Spec PyProof.Rows
theorem bt_isinstance : bootBuiltins "isinstance" = some (.builtin "isinstance") := by decide +kernel
theorem bt_len : bootBuiltins "len" = some (.builtin "len") := by decide +kernel
theorem bt_all : bootBuiltins "all" = some (.builtin "all") := by decide +kernel
theorem bt_sum : bootBuiltins "sum" = some (.builtin "sum") := by decide +kernel
theorem bt_max : bootBuiltins "max" = some (.builtin "max") := by decide +kernel
theorem bt_min : bootBuiltins "min" = some (.builtin "min") := by decide +kernel
theorem bt_bool : bootBuiltins "bool" = some (.type "bool") := by decide +kernel
theorem bt_int : bootBuiltins "int" = some (.type "int") := by decide +kernel
theorem bt_str : bootBuiltins "str" = some (.type "str") := by decide +kernel
theorem bt_tuple : bootBuiltins "tuple" = some (.type "tuple") := by decide +kernel
theorem bt_list : bootBuiltins "list" = some (.type "list") := by decide +kernel
theorem bt_ValueError : bootBuiltins "ValueError" = some (.type "ValueError") := by decide +kernel
theorem pe_ty {X : Cx} {x : Str} {n : String} {pos : Pos} (hm : X.mg x = none) (hv : bootBuiltins x = some (.type n)) (hg : Gl X x := by rfl) (hn : x ≠ "__name__" := by decide) (hd : (x == ("__debug__" : Str)) = false := by decide) : PE X (.Name x pos) (tC (.ty n)) :=
  pe_bltn hg hm hv (v := .ty n) rfl hn hd
theorem pe_cls {X : Cx} {x : Str} {C : Addr} {pos : Pos} (hm : X.mg x = some (.ref C)) (hg : Gl X x := by rfl) (hd : (x == ("__debug__" : Str)) = false := by decide) : PE X (.Name x pos) (tC (.ref C)) :=
  pe_glob hg hm (v := .ref C) rfl hd
theorem pe_const {X : Cx} {x : Str} {v : V} {pos : Pos} (h : ∃ u, X.mg x = some u ∧ RelV v u) (hg : Gl X x := by rfl) (hd : (x == ("__debug__" : Str)) = false := by decide) : PE X (.Name x pos) (tC v) := by
  obtain ⟨u, hm, r⟩ := h
  exact pe_glob hg hm r hd
theorem Same.new {H : Hp} {p : Addr} (h : H p = none) (o : HO) : Same H (upd H p o) := fun b u q => by rw [upd_ne (ne_of_none q h)]; exact q
theorem Same.upd {H H' : Hp} (s : Same H H') {p : Addr} {o : HO} (h : H p = none) (e : H' p = some o) (o' : HO) : Same H (upd H' p o') := fun b u q => by
  rw [upd_ne (fun z => by rw [z, h] at q; cases q)]; exact s b u q
theorem Same.seqT {K : PySem.W.Frag} {H H' : Hp} {a : Addr} {xs : List V} (e : Same H H') (h : SqT K H a xs) : SqT K H' a xs := by
  rcases h with (h | ⟨o, h⟩) | h
  · exact .inl (.inl (e _ _ h))
  · exact .inl (.inr ⟨o, e _ _ h⟩)
  · exact .inr h
theorem small {n : Nat} (h : n ≤ 1000) : n ≤ sizeLine := Nat.le_of_lt (small1000 h)
inductive Ty6 where | non | bl | int | str | lst | tup
noncomputable def Ty6.nm : Ty6 → String
  | .non => "NoneType" | .bl => "bool" | .int => "int" | .str => "str" | .lst => "list" | .tup => "tuple"
noncomputable def Ty6.isB : Ty6 → Bool | .bl => true | _ => false
noncomputable def Ty6.isI : Ty6 → Bool | .bl => true | .int => true | _ => false
noncomputable def Ty6.isT : Ty6 → Bool | .tup => true | _ => false
noncomputable def Ty6.isS : Ty6 → Bool | .str => true | _ => false
inductive Kn (H : Hp) : V → Ty6 → Prop where
  | non : Kn H .non .non
  | bl (b : Bool) : Kn H (.bl b) .bl
  | int (i : Int) : Kn H (.int i) .int
  | str (x : Str) : Kn H (.str x) .str
  | lst {a : Addr} {xs : List V} (e : H a = some (.lst xs)) : Kn H (.ref a) .lst
  | tup {a : Addr} {xs : List V} (e : H a = some (.tup xs)) : Kn H (.ref a) .tup
theorem Kn.ty {K : PySem.W.Frag} {H : Hp} {x : V} {T : Ty6} (h : Kn H x T) : TyOf K H x (.type T.nm) := by
  cases h with
  | non => exact .non
  | bl b => exact .bl b
  | int i => exact .int i
  | str x => exact .str x
  | lst e => exact .lst e
  | tup e => exact .tup e
theorem Kn.same {H H' : Hp} {x : V} {T : Ty6} (s : Same H H') (h : Kn H x T) : Kn H' x T := by
  cases h with
  | non => exact .non
  | bl b => exact .bl b
  | int i => exact .int i
  | str x => exact .str x
  | lst e => exact .lst (s _ _ e)
  | tup e => exact .tup (s _ _ e)
theorem kit_bool {K : PySem.W.Frag} (T : Ty6) : ∀ u, RelV (.ty "bool") u → PySem.W.kitOne K (.type T.nm) u = some T.isB := fun u e => by cases e; cases T <;> kernel_rfl
theorem kit_int {K : PySem.W.Frag} (T : Ty6) : ∀ u, RelV (.ty "int") u → PySem.W.kitOne K (.type T.nm) u = some T.isI := fun u e => by cases e; cases T <;> kernel_rfl
theorem kit_tuple {K : PySem.W.Frag} (T : Ty6) : ∀ u, RelV (.ty "tuple") u → PySem.W.kitOne K (.type T.nm) u = some T.isT := fun u e => by cases e; cases T <;> kernel_rfl
theorem kit_str {K : PySem.W.Frag} (T : Ty6) : ∀ u, RelV (.ty "str") u → PySem.W.kitOne K (.type T.nm) u = some T.isS := fun u e => by cases e; cases T <;> kernel_rfl
end L2
set_option Elab.async false
set_option linter.all false
set_option maxRecDepth 100000
namespace L2
open PySem PySem.Spec PyProof.Rows
theorem SqT.upd {K : PySem.W.Frag} {H : Hp} {a D : Addr} {xs : List V} {o : HO} (h : SqT K H a xs) (hD : H D = none) : SqT K (upd H D o) a xs := (Same.new hD o).seqT h
theorem SqL.upd {K : PySem.W.Frag} {H : Hp} {a D : Addr} {xs : List V} {o : HO} (h : SqL K H a xs) (hD : H D = none) : SqL K (upd H D o) a xs := (Same.new hD o).seq h
theorem comp_map {J : It} {caps : List (Option Nat)} {j : Nat} {te : TE} {σ : St} {H1 : Hp} {D : Addr} {Q : VK} (n : Nat) (g f : Nat → V) (hn : n ≤ 100000)
    (hgo : ∀ i ys, i < n → J.go i (upd H1 D (.lst ys))) (hstop : ∀ ys, J.stop n (upd H1 D (.lst ys))) (hy : ∀ i ys x H3, i < n → J.yld i (upd H1 D (.lst ys)) x H3 → H3 = upd H1 D (.lst ys) ∧ x = g i)
    (hs : ∀ i ys Q', i < n → Q' (f i) (upd H1 D (.lst ys)) → te ((capOf caps σ).set j (some (g i))) (upd H1 D (.lst ys)) Q') (hq : Q (.ref D) (upd H1 D (.lst ((List.range n).map f)))) :
    CompW J caps j tYes te σ H1 D Q := by
  refine ⟨fun i m H2 => m = n - i ∧ i ≤ n ∧ H2 = upd H1 D (.lst ((List.range i).map f)), ⟨n, by simp, Nat.zero_le _, rfl⟩, ?_⟩
  rintro i m H2 ⟨rfl, hi, rfl⟩
  by_cases hlt : i < n
  · refine .inr ⟨hgo i _ hlt, fun x H3 hx => ?_⟩
    obtain ⟨rfl, rfl⟩ := hy i _ x H3 hlt hx
    unfold tYes
    dsimp only
    rw [if_pos rfl]
    refine hs i _ _ hlt ⟨_, upd_same, ?_, n - (i + 1), by omega, rfl, hlt, ?_⟩
    · rw [List.length_map, List.length_range]
      exact Nat.lt_of_lt_of_le hlt (Nat.le_trans hn (by decide))
    · rw [upd_upd, List.range_succ, List.map_append]
      rfl
  · have e : i = n := by omega
    subst e
    exact .inl ⟨hstop _, hq⟩
theorem range_getD {xs : List V} (f : V → V) : (List.range xs.length).map (fun i => f (xs.getD i .non)) = xs.map f := by
  apply List.ext_getElem?
  intro i
  rw [List.getElem?_map, List.getElem?_map]
  by_cases h : i < xs.length
  · rw [List.getElem?_range h, List.getElem?_eq_getElem h]
    simp [List.getD, h]
  · rw [List.getElem?_eq_none (by rw [List.length_range]; exact Nat.le_of_not_lt h), List.getElem?_eq_none (Nat.le_of_not_lt h)]; rfl
theorem comp_tup {K : PySem.W.Frag} {a : Addr} {xs : List V} {caps : List (Option Nat)} {j : Nat} {te : TE} {σ : St} {H1 : Hp} {D : Addr} {Q : VK} (f : V → V) (hS : SqT K H1 a xs) (hD : H1 D = none) (hn : xs.length ≤ 100000)
    (hs : ∀ x ys Q', x ∈ xs → Q' (f x) (upd H1 D (.lst ys)) → te ((capOf caps σ).set j (some x)) (upd H1 D (.lst ys)) Q') (hq : Q (.ref D) (upd H1 D (.lst (xs.map f)))) :
    CompW (Itt K a) caps j tYes te σ H1 D Q := by
  refine comp_map xs.length (fun i => xs.getD i .non) (fun i => f (xs.getD i .non)) hn (fun i ys hi => ⟨xs, xs[i], hS.upd hD, by simp [hi]⟩) (fun ys => ⟨xs, hS.upd hD, Nat.le_refl _⟩) (fun i ys x H3 hi hx => ?_) (fun i ys Q' hi hQ => ?_) (by rw [range_getD]; exact hq)
  · obtain ⟨e, z⟩ := hx
    have := z xs (hS.upd hD)
    refine ⟨e, ?_⟩
    rw [List.getElem?_eq_getElem hi] at this
    rw [← Option.some.inj this]
    simp [List.getD, hi]
  · have e : xs.getD i .non = xs[i] := by simp [List.getD, hi]
    rw [e] at hQ ⊢
    exact hs _ ys Q' (List.getElem_mem hi) hQ
theorem comp_list {K : PySem.W.Frag} {a : Addr} {xs : List V} {caps : List (Option Nat)} {j : Nat} {te : TE} {σ : St} {H1 : Hp} {D : Addr} {Q : VK} (f : V → V) (hS : SqL K H1 a xs) (hD : H1 D = none) (hn : xs.length ≤ 100000)
    (hs : ∀ x ys Q', x ∈ xs → Q' (f x) (upd H1 D (.lst ys)) → te ((capOf caps σ).set j (some x)) (upd H1 D (.lst ys)) Q') (hq : Q (.ref D) (upd H1 D (.lst (xs.map f)))) :
    CompW (Itl K a) caps j tYes te σ H1 D Q := by
  refine comp_map xs.length (fun i => xs.getD i .non) (fun i => f (xs.getD i .non)) hn (fun i ys hi => ⟨xs, xs[i], hS.upd hD, by simp [hi]⟩) (fun ys => ⟨xs, hS.upd hD, Nat.le_refl _⟩) (fun i ys x H3 hi hx => ?_) (fun i ys Q' hi hQ => ?_) (by rw [range_getD]; exact hq)
  · obtain ⟨e, z⟩ := hx
    have := z xs (hS.upd hD)
    refine ⟨e, ?_⟩
    rw [List.getElem?_eq_getElem hi] at this
    rw [← Option.some.inj this]
    simp [List.getD, hi]
  · have e : xs.getD i .non = xs[i] := by simp [List.getD, hi]
    rw [e] at hQ ⊢
    exact hs _ ys Q' (List.getElem_mem hi) hQ
end L2
set_option Elab.async false
set_option linter.all false
set_option maxRecDepth 100000
namespace L2
open PySem PySem.Spec PyProof.Rows
theorem comp_rangeG {lo : Int} {n : Nat} {caps : List (Option Nat)} {j : Nat} {te : TE} {σ : St} {H1 : Hp} {D : Addr} {Q : VK} (R : Nat → V → Prop) (hD : H1 D = none) (hn : n ≤ 100000)
    (hs : ∀ (i : Nat) ys H2 Q', i < n → Same H1 H2 → H2 D = some (.lst ys) → (∀ v H3, R i v → Same H2 H3 → Q' v H3) → te ((capOf caps σ).set j (some (.int (lo + i)))) H2 Q')
    (hq : ∀ H2 ys, Same H1 H2 → H2 D = some (.lst ys) → ys.length = n → (∀ i y, ys[i]? = some y → R i y) → Q (.ref D) H2) :
    CompW (Itr lo n) caps j tYes te σ H1 D Q := by
  refine ⟨fun i m H2 => m = n - i ∧ i ≤ n ∧ Same H1 H2 ∧ ∃ ys, H2 D = some (.lst ys) ∧ ys.length = i ∧ ∀ k y, ys[k]? = some y → R k y, ⟨n, by simp, Nat.zero_le _, Same.new hD _, [], upd_same, rfl, fun k y e => by simp at e⟩, ?_⟩
  rintro i m H2 ⟨rfl, hi, sm, ys, hys, hl, hR⟩
  by_cases hlt : i < n
  · refine .inr ⟨hlt, fun x H3 hx => ?_⟩
    obtain ⟨rfl, rfl⟩ := hx
    unfold tYes
    dsimp only
    rw [if_pos rfl]
    refine hs i ys _ _ hlt sm hys fun v H3 rv s3 => ⟨ys, s3 _ _ hys, ?_, n - (i + 1), by omega, rfl, hlt, (sm.trans s3).upd hD (s3 _ _ hys) _, ys ++ [v], upd_same, by simp [hl], fun k y e => ?_⟩
    · rw [hl]
      exact Nat.lt_of_lt_of_le hlt (Nat.le_trans hn (by decide))
    · by_cases hk : k < ys.length
      · rw [List.getElem?_append_left hk] at e
        exact hR k y e
      · rw [List.getElem?_append_right (by omega)] at e
        by_cases hk2 : k = ys.length
        · subst hk2
          simp at e
          subst e
          rw [hl]
          exact rv
        · rw [List.getElem?_eq_none (by simp; omega)] at e
          cases e
  · have e : i = n := by omega
    subst e
    exact .inl ⟨Nat.le_refl _, hq H2 ys sm hys hl hR⟩
theorem ix_listK {X : Cx} {K : PySem.W.Frag} (h : X.K = K) : IxR X (rIxL K) := h ▸ ix_list
theorem ix_tupK {X : Cx} {K : PySem.W.Frag} (h : X.K = K) : IxR X (rIxT K) := h ▸ ix_tup
theorem call_len_seqK {X : Cx} {K : PySem.W.Frag} (h : X.K = K) : CallR X (.builtin "len") (fun xs H Q => ∃ p ys, xs = [.ref p] ∧ (SqL K H p ys ∨ SqT K H p ys) ∧ Q (.int ys.length) H) := h ▸ call_len_seq
end L2
set_option Elab.async false
set_option linter.all false
set_option maxRecDepth 100000
namespace L2
open PySem PySem.Spec PyProof.Rows
noncomputable def visOk (sc : Scope) (x : Str) : Bool := (decide (sc.names.lookup x = some .local) || decide (sc.names.lookup x = some .cell) || decide (sc.names.lookup x = some .free)) && !(x == ("__debug__" : Str)) && !(x == ("__classdict__" : Str))
noncomputable def locOk (sc : Scope) (x : Str) : Bool := decide (sc.names.lookup x = some .local) || decide (sc.names.lookup x = some .cell)
noncomputable def gloOk (sc : Scope) (x : Str) : Bool := decide (sc.names.lookup x = some .globalImplicit) && !(x == ("__debug__" : Str)) && !(decide (x = ("__name__" : Str)))
structure Vs (N : List Str) (sc : Scope) : Prop where
  vis : ∀ (i : Nat) (x : Str), N[i]? = some x → Vis sc x
  dbg : ∀ (i : Nat) (x : Str), N[i]? = some x → (x == ("__debug__" : Str)) = false
  cdt : ∀ (i : Nat) (x : Str), N[i]? = some x → (x == ("__classdict__" : Str)) = false
structure Ls (N : List Str) (sc : Scope) : Prop where
  nd : N.Nodup
  loc : ∀ (i : Nat) (x : Str), N[i]? = some x → Loc sc x
structure Gs (N : List Str) (sc : Scope) : Prop where
  gl : ∀ (i : Nat) (x : Str), N[i]? = some x → sc.names.lookup x = some .globalImplicit
  dbg : ∀ (i : Nat) (x : Str), N[i]? = some x → (x == ("__debug__" : Str)) = false
  nn : ∀ (i : Nat) (x : Str), N[i]? = some x → x ≠ ("__name__" : Str)
theorem all_at {N : List Str} {p : Str → Bool} (h : N.all p = true) {i : Nat} {x : Str} (e : N[i]? = some x) : p x = true := List.all_eq_true.mp h x (List.mem_of_getElem? e)
theorem Vs.of {N : List Str} {sc : Scope} (h : N.all (visOk sc) = true) : Vs N sc := by
  have k : ∀ (i : Nat) (x : Str), N[i]? = some x → Vis sc x ∧ (x == ("__debug__" : Str)) = false ∧ (x == ("__classdict__" : Str)) = false := fun i x e => by
    have := all_at h e
    simp only [visOk, Bool.and_eq_true, Bool.or_eq_true, decide_eq_true_eq, Bool.not_eq_true'] at this
    obtain ⟨⟨a, b⟩, c⟩ := this
    exact ⟨by rcases a with (a | a) | a <;> simp [Vis, a], b, c⟩
  exact ⟨fun i x e => (k i x e).1, fun i x e => (k i x e).2.1, fun i x e => (k i x e).2.2⟩
theorem Ls.of {N : List Str} {sc : Scope} (nd : N.Nodup) (h : N.all (locOk sc) = true) : Ls N sc := ⟨nd, fun i x e => by
  have := all_at h e
  simp only [locOk, Bool.or_eq_true, decide_eq_true_eq] at this
  exact this⟩
theorem Gs.of {N : List Str} {sc : Scope} (h : N.all (gloOk sc) = true) : Gs N sc := by
  have k : ∀ (i : Nat) (x : Str), N[i]? = some x → sc.names.lookup x = some .globalImplicit ∧ (x == ("__debug__" : Str)) = false ∧ x ≠ ("__name__" : Str) := fun i x e => by
    have := all_at h e
    simp only [gloOk, Bool.and_eq_true, decide_eq_true_eq, Bool.not_eq_true', decide_eq_false_iff_not] at this
    exact ⟨this.1.1, this.1.2, this.2⟩
  exact ⟨fun i x e => (k i x e).1, fun i x e => (k i x e).2.1, fun i x e => (k i x e).2.2⟩
theorem relabel_fwd {env : Env} : ∀ {names : List (Str × NameKind)} {x : Str} {k : NameKind}, names.lookup x = some k →
    (names.map fun (n, k) => if (k == NameKind.free && env.scope.kind == .function && env.kindOf n == some .cell) then (n, NameKind.cell) else (n, k)).lookup x = some k ∨
    (k = .free ∧ (names.map fun (n, k) => if (k == NameKind.free && env.scope.kind == .function && env.kindOf n == some .cell) then (n, NameKind.cell) else (n, k)).lookup x = some .cell)
  | [], _, _, h => by simp at h
  | (n, k') :: r, x, k, h => by
    have ih := @relabel_fwd env r x k
    rw [List.map_cons]
    rw [List.lookup_cons] at h
    by_cases hc : (k' == NameKind.free && env.scope.kind == .function && env.kindOf n == some .cell) = true
    · have e : (match (n, k') with | (n, k) => if (k == NameKind.free && env.scope.kind == .function && env.kindOf n == some .cell) = true then (n, NameKind.cell) else (n, k)) = (n, NameKind.cell) := by dsimp only; rw [if_pos hc]
      rw [e, List.lookup_cons]
      cases hx : x == n with
      | true =>
        rw [hx] at h
        cases h
        simp only [Bool.and_eq_true, beq_iff_eq] at hc
        exact .inr ⟨hc.1.1, rfl⟩
      | false => rw [hx] at h; exact ih h
    · have e : (match (n, k') with | (n, k) => if (k == NameKind.free && env.scope.kind == .function && env.kindOf n == some .cell) = true then (n, NameKind.cell) else (n, k)) = (n, k') := by dsimp only; rw [if_neg hc]
      rw [e, List.lookup_cons]
      cases hx : x == n with
      | true => rw [hx] at h; exact .inl h
      | false => rw [hx] at h; exact ih h
theorem Vs.re {N : List Str} {sc : Scope} (V : Vs N sc) (env : Env) : Vs N (relabel sc env) := ⟨fun i x e => by
  rcases V.vis i x e with h | h | h
  · rcases relabel_fwd (env := env) h with q | q
    · exact .inl q
    · exact absurd q.1 (by decide)
  · rcases relabel_fwd (env := env) h with q | q
    · exact .inr (.inl q)
    · exact absurd q.1 (by decide)
  · rcases relabel_fwd (env := env) h with q | q
    · exact .inr (.inr q)
    · exact .inr (.inl q.2), V.dbg, V.cdt⟩
theorem Gs.re {N : List Str} {sc : Scope} (V : Gs N sc) (env : Env) : Gs N (relabel sc env) := ⟨fun i x e => by
  rcases relabel_fwd (env := env) (V.gl i x e) with q | q
  · exact q
  · exact absurd q.1 (by decide), V.dbg, V.nn⟩
section
variable {X : Cx} {N L : List Str} {sc : Scope} {x : Str} {pos p : Pos}
theorem glX (G : Gs L sc) {i : Nat} (hL : L[i]? = some x) (h2 : X.env.scope = sc) : Gl X x := by
  unfold Gl Env.kindOf
  rw [h2]
  exact G.gl i x hL
theorem vn (V : Vs N sc) (i : Nat) (hN : N[i]? = some x := by rfl) (h1 : X.N = N := by rfl) (h2 : X.env.scope = sc := by rfl) : PE X (.Name x pos) (tVar i) := by
  subst h1 h2
  exact pe_var hN (V.vis i x hN) (V.dbg i x hN) (V.cdt i x hN)
theorem set_v {i : Nat} {e : Expr} {te : TE} {pos' : Pos} (Lc : Ls N sc) (he : PE X e te) (hi : N[i]? = some x := by rfl) (h1 : X.N = N := by rfl) (h2 : X.env.scope = sc := by rfl) (hs : swapsWith e (some (.Name x pos')) pos.line X.env = pure false := by rfl) (hf : X.fn x = true := by rfl) :
    PS X (.Assign [.Name x pos'] e pos) (tAsg te (gName i)) := by
  subst h1 h2
  exact ps_set Lc.nd hi (Lc.loc i x hi) he hs (.inl hf)
theorem tgt_v {i : Nat} (Lc : Ls N sc) (hi : N[i]? = some x := by rfl) (h1 : X.N = N := by rfl) (h2 : X.env.scope = sc := by rfl) (hf : X.fn x = true := by rfl) : PG X (.Name x pos) (gName i) := by
  subst h1 h2
  exact pg_name Lc.nd hi (Lc.loc i x hi) (.inl hf)
theorem cB {i : Nat} {id : String} {r : List V → Hp → VK → Prop} {e : Expr} {es : List Expr} {t : TA} (G : Gs L sc) (hc : CallR X (.builtin id) r) (hm : X.mg x = none) (hv : bootBuiltins x = some (.builtin id)) (ha : PA X (e :: es) t) (hL : L[i]? = some x := by rfl) (h2 : X.env.scope = sc := by rfl)
    (he : starEach (e :: es) X.env = (false, eval e X.env) :: starEach es X.env := by rfl) (hpl : (backTo pos (starEach es X.env)).any (·.1) = false := by rfl) : PE X (.Call (.Name x p) (e :: es) [] pos) (tCB r t) :=
  pe_callB hc (glX G hL h2) hm hv ha (G.nn i x hL) (G.dbg i x hL) he hpl
theorem cTy {i : Nat} {T : String} {r : List V → Hp → VK → Prop} {e : Expr} {es : List Expr} {t : TA} (G : Gs L sc) (hc : CallR X (.type T) r) (hm : X.mg x = none) (hv : bootBuiltins x = some (.type T)) (ha : PA X (e :: es) t) (hL : L[i]? = some x := by rfl) (h2 : X.env.scope = sc := by rfl)
    (he : starEach (e :: es) X.env = (false, eval e X.env) :: starEach es X.env := by rfl) (hpl : (backTo pos (starEach es X.env)).any (·.1) = false := by rfl) : PE X (.Call (.Name x p) (e :: es) [] pos) (tCB r t) :=
  pe_callTy hc (glX G hL h2) hm hv ha (G.nn i x hL) (G.dbg i x hL) he hpl
theorem cOwn {i : Nat} {c : Bool} {k : Nat} {ps : List Str} {sp : Sp} {E : XK} {e : Expr} {es : List Expr} {t : TA} (G : Gs L sc) (O : Own X.prog X.w X.K X.mg X.base c k x ps sp) (hr : Room k X.A) (hx : Passes (CX1 X.prog X.w) X E) (ha : PA X (e :: es) t) (hL : L[i]? = some x := by rfl) (h2 : X.env.scope = sc := by rfl)
    (hca : c = true → X.calm = true := by first | exact fun h => h | exact fun _ => rfl | exact fun h => nomatch h) (he : starEach (e :: es) X.env = (false, eval e X.env) :: starEach es X.env := by rfl) (hpl : (backTo pos (starEach es X.env)).any (·.1) = false := by rfl) :
    PE X (.Call (.Name x p) (e :: es) [] pos) (tCall sp [] E t) :=
  pe_own O hr hx ha hca (glX G hL h2) (G.dbg i x hL) he hpl
theorem nTy {i : Nat} {n : String} (G : Gs L sc) (hm : X.mg x = none) (hv : bootBuiltins x = some (.type n)) (hL : L[i]? = some x := by rfl) (h2 : X.env.scope = sc := by rfl) : PE X (.Name x pos) (tC (.ty n)) :=
  pe_ty hm hv (glX G hL h2) (G.nn i x hL) (G.dbg i x hL)
theorem nCls {i : Nat} {C : Addr} (G : Gs L sc) (hm : X.mg x = some (.ref C)) (hL : L[i]? = some x := by rfl) (h2 : X.env.scope = sc := by rfl) : PE X (.Name x pos) (tC (.ref C)) :=
  pe_cls hm (glX G hL h2) (G.dbg i x hL)
theorem nCon {i : Nat} {v : V} (G : Gs L sc) (h : ∃ u, X.mg x = some u ∧ RelV v u) (hL : L[i]? = some x := by rfl) (h2 : X.env.scope = sc := by rfl) : PE X (.Name x pos) (tC v) :=
  pe_const h (glX G hL h2) (G.dbg i x hL)
theorem iR1 {i : Nat} {tg a : Expr} {ta : TA} (G : Gs L sc) (hm : X.mg "range" = none) (ha : PA X [a] ta) (hL : L[i]? = some "range" := by rfl) (h2 : X.env.scope = sc := by rfl) (hs : starEach [a] X.env = [(false, eval a X.env)] := by rfl) : PI X tg (.Call (.Name "range" p) [a] [] pos) (iRng1 ta) :=
  pi_range1 (glX G hL h2) hm ha hs
theorem iR2 {i : Nat} {tg a b : Expr} {ta : TA} (G : Gs L sc) (hm : X.mg "range" = none) (ha : PA X [a, b] ta) (hL : L[i]? = some "range" := by rfl) (h2 : X.env.scope = sc := by rfl) (hs : starEach [a, b] X.env = [(false, eval a X.env), (false, eval b X.env)] := by rfl) (hs2 : starEach [b] X.env = [(false, eval b X.env)] := by rfl) :
    PI X tg (.Call (.Name "range" p) [a, b] [] pos) (iRng2 ta) :=
  pi_range2 (glX G hL h2) hm ha hs hs2
theorem rse {i : Nat} {E : XK} {C : Addr} {e : Expr} {es : List Expr} {t : TA} {np cpos : Pos} (G : Gs L sc) (hm : X.mg x = some (.ref C)) (hE : ExcC X.K C) (ha : PA (Xw X E) (e :: es) t) (hc : X.calm = true := by rfl) (hL : L[i]? = some x := by rfl) (h2 : X.env.scope = sc := by rfl)
    (he : starEach (e :: es) X.env = (false, eval e X.env) :: starEach es X.env := by rfl) (hpl : (backTo cpos (starEach es X.env)).any (·.1) = false := by rfl) :
    PS (Xw X E) (.Raise (some (.Call (.Name x np) (e :: es) [] cpos)) none pos) (tRaise E C t) :=
  ps_raise hc (glX G hL h2) hm hE ha (G.dbg i x hL) he hpl
theorem tryx {j i : Nat} {n : Str} {E : XK} {body : List Stmt} {b₀ : Stmt} {suite : List Stmt} {CE : Addr} {tb : XK → TS} {th : TS} {np hpos : Pos} (G : Gs L sc) (Lc : Ls N sc) (Dx : DefCx X) (h0 : X.hx = none)
    (hb : ∀ (E1 : XK) (pn : List (Addr × Obj)), PSs (Xw (X.pin pn) E1) body (tb E1)) (hm : X.mg x = some (.ref CE))
    (hh : ∀ (a : Addr) (o : Obj) (pn : List (Addr × Obj)), PSs (hdCx (X.pin pn) a o) (b₀ :: suite) th) (hn : N[i]? = some n := by rfl) (hl : sc.names.lookup n = some .local := by decide +kernel) (hL : L[j]? = some x := by rfl) (h1 : X.N = N := by rfl) (h2 : X.env.scope = sc := by rfl) :
    PS (Xw X E) (.Try body [.ExceptHandler (some (.Name x np)) (some n) (b₀ :: suite) hpos] [] [] pos) (tTry X.K X.N.length i CE tb th) := by
  subst h1
  exact ps_try Dx h0 hb (glX G hL h2) hm Lc.nd hn (by rw [h2]; exact hl) hh (G.dbg j x hL)
end
end L2
set_option Elab.async false
set_option linter.all false
set_option maxRecDepth 100000
namespace L2
open PySem PySem.Spec PyProof.Rows
section
variable {X : Cx} {pins : List (Addr × Obj)} {σ : St} {H : Hp} {s : Shared}
theorem Inv.turnedL {h' : Heap} {t' : Nat} {fp : List Addr} (I : Inv X pins σ H s) (k : ∀ b o, b ∉ fp → s.heap.get? b = some o → h'.get? b = some o) (hf : ∀ b ∈ fp, FpOk X pins H b) : Inv X pins σ H { s with heap := h', toks := t' } := by
  have nit : ∀ b u, H b = some u → b ∉ fp := fun b u e z => by rw [(hf b z).1] at e; cases e
  refine I.step (g' := s.gens) (d' := s.drawn) (ch := fp) (fun b hb => ?_) (fun b o _ _ hc e _ => k b o hc e) (fun b o _ _ hc e _ => ⟨o.slots, k b o hc e⟩) (fun _ _ _ _ n => n)
    (fun b o hc e => ⟨o, k b o hc e⟩) (fun _ _ e => e) (fun _ _ _ e => e) (fun b ps e => ⟨#[], by rw [e]; simp⟩) (fun m hm => ?_) (fun b u e => ?_) I.bare
  · obtain ⟨_, f1, _, f3, f4, f5⟩ := hf b hb
    exact ⟨f3, f1, f4, f5⟩
  · obtain ⟨o, es, ep, ho, r⟩ := hm
    exact ⟨o, es, ep, k _ o (fun z => (hf _ z).2.1 rfl) ho, r⟩
  · refine (I.hok b u e).stay (fun c v hc q => k c v ?_ q) (fun _ q => q) fun _ _ q => q
    rcases hc with z | z
    · rw [z]; exact nit b u e
    · exact nit c _ z
theorem Inv.know {a : Addr} {u0 : HO} (I : Inv X pins σ H s) (hn : H a = none) (hs : X.s₀.heap.objs.size ≤ a) (hL : a ≠ X.env.locals) (hC : ∀ x c, X.env.cells.lookup x = some c → c ≠ a) (hP : ∀ p ∈ X.pn ++ pins, p.1 ≠ a)
    (hu : ObjOk X.prog X.w (upd H a u0) s.heap a u0) : Inv X pins σ (upd H a u0) s := by
  have ne : ∀ b u, H b = some u → b ≠ a := fun b u e z => by rw [z, hn] at e; cases e
  have st : ∀ b u, H b = some u → upd H a u0 b = some u := fun b u e => by rw [upd_ne (ne b u e)]; exact e
  have fr : ∀ b, b ≠ a → H b = none → upd H a u0 b = none := fun b z e => by rw [upd_ne z]; exact e
  refine ⟨I.ok, I.os, I.bare, ⟨I.base.keep, I.base.slot, fun b ob q n hx => fr b (fun z => by rw [z] at q; exact absurd (Heap.lt_size q) (Nat.not_lt_of_le hs)) (I.base.free b ob q n hx), I.base.there, fun b xs q => st b _ (I.base.tups b xs q), fun b ob u q => st b _ (I.base.frzs b ob u q), fun b ps q => ?_⟩,
    I.loc, I.cell, fr _ (Ne.symm hL) I.free, fun x c e => fr c (hC x c e) (I.freeC x c e), fun p hp => ?_, fun b u e => ?_, I.len, fun b ob e => ?_⟩
  · obtain ⟨more, e⟩ := I.base.tbls b ps q
    exact ⟨more, st b _ e⟩
  · obtain ⟨e, n, r⟩ := I.pin p hp
    exact ⟨e, fr _ (hP p hp) n, r⟩
  · by_cases hb : b = a
    · subst hb
      rw [upd_same] at e
      cases e
      exact hu
    · rw [upd_ne hb] at e
      exact (I.hok b u e).stay (fun c v _ q => q) (fun c q => st c _ q) fun c xs q => st c _ q
  · obtain ⟨u, z⟩ := I.hxs b ob e
    exact ⟨u, st b _ z⟩
theorem Inv.pair {h' : Heap} {t' : Nat} {fp : List Addr} {x y : V} {u v : Value} (I : Inv X pins σ H s) (k : ∀ b o, b ∉ fp → s.heap.get? b = some o → h'.get? b = some o) (hf : ∀ b ∈ fp, FpOk X pins H b)
    (ht : h'.get? s.heap.objs.size = some { cls := .type "tuple", data := .seq #[u, v] }) (rx : RelV x u) (ry : RelV y v) : Inv X pins σ (upd H s.heap.objs.size (.tup [x, y])) { s with heap := h', toks := t' } := by
  have I1 : Inv X pins σ H { s with heap := h', toks := t' } := I.turnedL k hf
  have F := I.fpOk (b := s.heap.objs.size) (Nat.le_refl _) (I.hok.fresh (Nat.le_refl _))
  obtain ⟨f0, f1, f2, f3, f4, f5⟩ := F
  refine I1.know f0 I.sz f1 f4 f5 ?_
  exact ⟨by show 2 ≤ sizeLine; decide, [u, v], .cons rx (.cons ry .nil), _, ht, rfl, _, rfl⟩
end
noncomputable def Ite (K : PySem.W.Frag) (a : Addr) : It :=
  ⟨fun i H => ∃ xs x, SqL K H a xs ∧ xs[i]? = some x, fun i H x H' => ∃ p y, x = .ref p ∧ H p = none ∧ H' = upd H p (.tup [.int i, y]) ∧ ∀ xs, SqL K H a xs → xs[i]? = some y, fun i H => ∃ xs, SqL K H a xs ∧ xs.length ≤ i⟩
theorem bt_zip : bootBuiltins "zip" = some (.type "zip") := by decide +kernel
noncomputable def iEnum (K : PySem.W.Frag) (ta : TA) : TI := fun σ H R => ta σ H fun vs H1 => ∃ a, vs = [.ref a] ∧ (∃ xs, SqL K H1 a xs) ∧ R (Ite K a) H1
section
variable {X : Cx} {es : List Expr} {kt : Nat} {pt : Pos}
end
noncomputable def Itz (a b : Addr) : It :=
  ⟨fun i H => ∃ xs ys x y, H a = some (.lst xs) ∧ H b = some (.lst ys) ∧ xs[i]? = some x ∧ ys[i]? = some y, fun i H x H' => ∃ p y z, x = .ref p ∧ H p = none ∧ H' = upd H p (.tup [y, z]) ∧ (∀ xs, H a = some (.lst xs) → xs[i]? = some y) ∧ ∀ xs, H b = some (.lst xs) → xs[i]? = some z,
    fun i H => ∃ xs ys, H a = some (.lst xs) ∧ H b = some (.lst ys) ∧ (xs.length ≤ i ∨ ys.length ≤ i)⟩
theorem turn_zip {P : Program} {w : World} {K : PySem.W.Frag} {es : List Expr} {kt : Nat} {pos : Pos} (a b z TI TO i1 i2 : Addr) (d1 : TI ≠ z) (d2 : TO ≠ z) (d3 : i1 ≠ z) (d4 : i2 ≠ z) (d5 : TI ≠ TO) (d6 : TI ≠ i1) (d7 : TI ≠ i2) (d8 : TO ≠ i1) (d9 : TO ≠ i2) (d10 : i1 ≠ i2) :
    Turn P w K none (.Tuple es kt pos) (Itz a b) [z, TI, TO, i1, i2] z (fun i h => IsZip h z TI TO .none ∧ IsPair h TI (.ref i1) (.ref i2) ∧ (∃ u v, IsPair h TO u v) ∧ h.IsListIter i1 a i ∧ h.IsListIter i2 b i) where
  mem := by simp
  obj := fun i h st c hc => by
    obtain ⟨hz, hTI, ⟨u, v, hTO⟩, h1, h2⟩ := st
    simp only [List.mem_cons, List.not_mem_nil, or_false] at hc
    rcases hc with e | e | e | e | e
    · subst e; exact ⟨_, hz, fun v z => by
        have z' : Data.fields _ = Data.cell v := z
        cases z'⟩
    · subst e; exact ⟨_, hTI, fun v z => by
        have z' : Data.seq _ _ = Data.cell v := z
        cases z'⟩
    · subst e; exact ⟨_, hTO, fun v z => by
        have z' : Data.seq _ _ = Data.cell v := z
        cases z'⟩
    · subst e; obtain ⟨o, q, _, d⟩ := h1; exact ⟨o, q, fun v z => by rw [d] at z; cases z⟩
    · subst e; obtain ⟨o, q, _, d⟩ := h2; exact ⟨o, q, fun v z => by rw [d] at z; cases z⟩
  keep := fun i h h' st k => by
    obtain ⟨hz, hTI, ⟨u, v, hTO⟩, h1, h2⟩ := st
    exact ⟨k z (by simp) _ hz, k TI (by simp) _ hTI, ⟨u, v, k TO (by simp) _ hTO⟩, h1.at fun o q => k i1 (by simp) o q, h2.at fun o q => k i2 (by simp) o q⟩
  item := by
    intro X hP hw hK hA i pins s σ H E I hf st hg
    subst hP hw hK
    obtain ⟨hz, hTI, ⟨u0, v0, hTO⟩, h1, h2⟩ := st
    obtain ⟨xs, ys, x, y, hq1, hq2, hx, hy⟩ := hg
    obtain ⟨its, rv, p, _⟩ := I.list (SqL.of hq1)
    obtain ⟨its2, rv2, p2, _⟩ := I.list (SqL.of hq2)
    obtain ⟨u, hu, ru⟩ := rv.get hx
    obtain ⟨v, hv, rv'⟩ := rv2.get hy
    have na : ∀ {c d : Addr} {o : HO}, H c = some o → d ∈ [z, TI, TO, i1, i2] → c ≠ d := fun e hd q => by
      have := (hf _ hd).1
      rw [← q, e] at this; cases this
    have D : ZipApart z TI TO i1 i2 a b := ⟨d1, d2, d3, d4, d5, d6, d7, d8, d9, d10, na hq1 (by simp), na hq1 (by simp), na hq1 (by simp), na hq1 (by simp), na hq2 (by simp), na hq2 (by simp), na hq2 (by simp), na hq2 (by simp)⟩
    refine wpAny_pyNext_zip_item D hz hTI hTO h1 h2 p.isList p2.isList (x := u) (y := v) (by simpa using hu) (by simpa using hv) fun h' a1 a2 a3 a4 a5 a6 kk => ⟨_, rfl, ?_⟩
    refine wpAny_letOwnedTupleGo_zip a1 fun h2' hz2 sb => ?_
    have new : ∀ c ∈ [z, TI, TO, i1, i2], c ≠ s.heap.objs.size := fun c hc => by
      simp only [List.mem_cons, List.not_mem_nil, or_false] at hc
      rcases hc with e | e | e | e | e
      · rw [e]; exact Nat.ne_of_lt (Heap.lt_size hz)
      · rw [e]; exact Nat.ne_of_lt (Heap.lt_size hTI)
      · rw [e]; exact Nat.ne_of_lt (Heap.lt_size hTO)
      · obtain ⟨o, q, _⟩ := h1; rw [e]; exact Nat.ne_of_lt (Heap.lt_size q)
      · obtain ⟨o, q, _⟩ := h2; rw [e]; exact Nat.ne_of_lt (Heap.lt_size q)
    refine ⟨.ref s.heap.objs.size, upd H s.heap.objs.size (.tup [x, y]), ?_, rfl, ⟨_, x, y, rfl, I.hok.fresh (Nat.le_refl _), rfl, fun zs hz' => ?_, fun zs hz' => ?_⟩, ⟨hz2, ?_, ⟨_, _, (sb.2 _ d2).trans a2⟩, a3.at fun o q => (sb.2 _ d3).trans q, a4.at fun o q => (sb.2 _ d4).trans q⟩, fun c hc => ?_⟩
    · exact I.pair (t' := s.toks) (fun c o hc q => (sb.2 c (fun e => hc (by simp [e]))).trans (kk c o (fun e => hc (by simp [e])) (fun e => hc (by simp [e])) (fun e => hc (by simp [e])) (fun e => hc (by simp [e])) q)) hf ((sb.2 _ (new z (by simp)).symm).trans a5) ru rv'
    · rw [hq1] at hz'; cases hz'; exact hx
    · rw [hq2] at hz'; cases hz'; exact hy
    · exact (sb.2 _ d1).trans (kk _ _ d1 d5 d6 d7 hTI)
    · rw [upd_ne (new c hc)]; exact (hf c hc).1
  done := by
    intro X hP hw hK hA i pins s σ H E I hf st hg
    subst hP hw hK
    obtain ⟨hz, hTI, ⟨u0, v0, hTO⟩, h1, h2⟩ := st
    obtain ⟨xs, ys, hq1, hq2, hx⟩ := hg
    obtain ⟨its, rv, p, _⟩ := I.list (SqL.of hq1)
    obtain ⟨its2, rv2, p2, _⟩ := I.list (SqL.of hq2)
    have l1 := rv.length
    have l2 := rv2.length
    have na : ∀ {c d : Addr} {o : HO}, H c = some o → d ∈ [z, TI, TO, i1, i2] → c ≠ d := fun e hd q => by
      have := (hf _ hd).1
      rw [← q, e] at this; cases this
    have D : ZipApart z TI TO i1 i2 a b := ⟨d1, d2, d3, d4, d5, d6, d7, d8, d9, d10, na hq1 (by simp), na hq1 (by simp), na hq1 (by simp), na hq1 (by simp), na hq2 (by simp), na hq2 (by simp), na hq2 (by simp), na hq2 (by simp)⟩
    refine wpAny_pyNext_zip_end hA D hz hTI hTO h1 h2 p.isList p2.isList ?_ fun h' kk => ⟨rfl, I.turnedL (t' := s.toks) (fun c o hc q => kk c o (fun e => hc (by simp [e])) (fun e => hc (by simp [e])) (fun e => hc (by simp [e])) (fun e => hc (by simp [e])) q) hf⟩
    rcases hx with e | e
    · exact .inl (by simp; omega)
    · exact .inr (by simp; omega)
  self := fun _ _ _ _ _ st h => wpAny_pyIter_zip st.1 h
noncomputable def iZip (ta : TA) : TI := fun σ H R => ta σ H fun vs H1 => ∃ a b, vs = [.ref a, .ref b] ∧ (∃ xs, H1 a = some (.lst xs)) ∧ (∃ ys, H1 b = some (.lst ys)) ∧ R (Itz a b) H1
section
variable {X : Cx} {es : List Expr} {kt : Nat} {pt : Pos}
theorem pi_zip {l m : Expr} {ta : TA} {p pos : Pos} (hc : X.calm = true) (hg : Gl X "zip") (hm : X.mg "zip" = none) (ha : PA X [l, m] ta) (hs : starEach [l, m] X.env = [(false, eval l X.env), (false, eval m X.env)] := by rfl) (hs2 : starEach [m] X.env = [(false, eval m X.env)] := by rfl) :
    PI X (.Tuple es kt pt) (.Call (.Name "zip" p) [l, m] [] pos) (iZip ta) := by
  constructor
  intro pins s σ H R I h
  refine Call_ (ld_blt I hg hm bt_zip (PyProof.Rows.callWith_type1 (thn (ha pos pins s σ H _ I h) fun us s1 ⟨vs, H1, I1, r1, q1⟩ => ?_) (by rw [hs, hs2]) (by rw [hs2]; rfl)))
  obtain ⟨a, b, e, ⟨xs, hq⟩, ⟨ys, hq2⟩, q⟩ := q1
  subst e
  cases r1 with
  | cons r rr =>
    cases rr with
    | cons r' rr =>
      cases rr
      cases r
      cases r'
      obtain ⟨its, rv, pl, hz⟩ := I1.list (SqL.of hq)
      obtain ⟨its2, rv2, pl2, hz2⟩ := I1.list (SqL.of hq2)
      refine call_zip_2 pl.isList pl2.isList fun h' a1 a2 a3 a4 a5 a6 kp => wpAny_pyIter_zip a1 ?_
      have I2 : Inv X pins σ H1 { s1 with heap := h' } := I1.kept (t' := s1.toks) kp
      have hd : X.A.handled = none := I1.ok.hd hc
      refine ⟨s1.heap.objs.size + 4, [s1.heap.objs.size + 4, s1.heap.objs.size + 2, s1.heap.objs.size + 3, s1.heap.objs.size, s1.heap.objs.size + 1], (fun i h => IsZip h (s1.heap.objs.size + 4) (s1.heap.objs.size + 2) (s1.heap.objs.size + 3) .none ∧ IsPair h (s1.heap.objs.size + 2) (.ref s1.heap.objs.size) (.ref (s1.heap.objs.size + 1)) ∧ (∃ u v, IsPair h (s1.heap.objs.size + 3) u v) ∧ h.IsListIter s1.heap.objs.size a i ∧ h.IsListIter (s1.heap.objs.size + 1) b i), Itz a b, H1, rfl, I2, by rw [hd]; exact turn_zip a b (s1.heap.objs.size + 4) (s1.heap.objs.size + 2) (s1.heap.objs.size + 3) s1.heap.objs.size (s1.heap.objs.size + 1) (show (s1.heap.objs.size + 2 : Nat) ≠ s1.heap.objs.size + 4 by omega) (show (s1.heap.objs.size + 3 : Nat) ≠ s1.heap.objs.size + 4 by omega) (show (s1.heap.objs.size : Nat) ≠ s1.heap.objs.size + 4 by omega) (show (s1.heap.objs.size + 1 : Nat) ≠ s1.heap.objs.size + 4 by omega) (show (s1.heap.objs.size + 2 : Nat) ≠ s1.heap.objs.size + 3 by omega) (show (s1.heap.objs.size + 2 : Nat) ≠ s1.heap.objs.size by omega) (show (s1.heap.objs.size + 2 : Nat) ≠ s1.heap.objs.size + 1 by omega) (show (s1.heap.objs.size + 3 : Nat) ≠ s1.heap.objs.size by omega) (show (s1.heap.objs.size + 3 : Nat) ≠ s1.heap.objs.size + 1 by omega) (show (s1.heap.objs.size : Nat) ≠ s1.heap.objs.size + 1 by omega), ⟨a1, a2, ⟨_, _, a3⟩, a4, a5⟩, fun c hc => ?_, q⟩
      have hb' : s1.heap.objs.size ≤ c := by
        simp only [List.mem_cons, List.not_mem_nil, or_false] at hc
        rcases hc with e | e | e | e | e <;> rw [e] <;> first | exact Nat.le_refl _ | exact Nat.le_add_right _ _
      exact I1.fpOk hb' (I1.hok.fresh hb')
end
theorem for_zip {K : PySem.W.Frag} {a b : Addr} {xs ys : List V} {j1 j2 : Nat} {tb : TS} {D : Ends} {σ : St} {H : Hp} (Pv : Nat → St → Hp → Prop) (he : ys.length = xs.length) (h0 : Pv 0 σ H) (hl : ∀ i σ H, i ≤ xs.length → Pv i σ H → H a = some (.lst xs) ∧ H b = some (.lst ys))
    (hs : ∀ i x y σ H p, xs[i]? = some x → ys[i]? = some y → Pv i σ H → H p = none → tb { D with nx := Pv (i + 1), ct := Pv (i + 1), bk := D.nx } ((σ.set j1 (some x)).set j2 (some y)) (upd H p (.tup [x, y]))) (hd : ∀ σ H, Pv xs.length σ H → D.nx σ H) :
    ∃ W : Nat → Nat → St → Hp → Prop, (∃ m, W 0 m σ H) ∧ ∀ i m σ H, W i m σ H →
      ((Itz a b).stop i H ∧ D.nx σ H) ∨ ((Itz a b).go i H ∧ ∃ N : St → Hp → Prop, (∀ σ' H', N σ' H' → ∃ m', m' < m ∧ W (i + 1) m' σ' H') ∧ ∀ x H', (Itz a b).yld i H x H' → gTup K 2 (gCons (gName j1) (gCons (gName j2) gNil)) x σ H' fun σ2 H2 => tb { D with nx := N, ct := N, bk := D.nx } σ2 H2) := by
  refine ⟨fun i m σ H => m = xs.length - i ∧ i ≤ xs.length ∧ Pv i σ H, ⟨xs.length, by simp, Nat.zero_le _, h0⟩, ?_⟩
  rintro i m σ H ⟨rfl, hi, p⟩
  obtain ⟨q, q'⟩ := hl i σ H hi p
  by_cases hlt : i < xs.length
  · refine .inr ⟨⟨xs, ys, xs[i], ys[i], q, q', by simp [hlt], by simp⟩, Pv (i + 1), fun σ' H' p' => ⟨xs.length - (i + 1), by omega, rfl, hlt, p'⟩, fun x H' y => ?_⟩
    obtain ⟨p0, u, v, rfl, hp, rfl, y1, y2⟩ := y
    exact ⟨p0, _, rfl, SqT.of upd_same, rfl, _, _, rfl, _, _, rfl, rfl, hs i u v σ H p0 (y1 xs q) (y2 ys q') p hp⟩
  · have e : i = xs.length := by omega
    subst e
    exact .inl ⟨⟨xs, ys, q, q', .inl (Nat.le_refl _)⟩, hd σ H p⟩
end L2
set_option Elab.async false
set_option linter.all false
set_option maxRecDepth 100000
namespace L2
open PySem PySem.Spec PyProof.Rows
section
variable {X : Cx}
noncomputable def rEqT (K : PySem.W.Frag) : R2 := fun x y H Q => ∃ p q xs ys, x = .ref p ∧ y = .ref q ∧ SqT K H p xs ∧ SqT K H q ys ∧ xs.all flatV = true ∧ ys.all flatV = true ∧ Q (.bl (eqVs xs ys)) H
noncomputable def rNeT (K : PySem.W.Frag) : R2 := fun x y H Q => ∃ p q xs ys, x = .ref p ∧ y = .ref q ∧ SqT K H p xs ∧ SqT K H q ys ∧ xs.all flatV = true ∧ ys.all flatV = true ∧ Q (.bl (!eqVs xs ys)) H
end
noncomputable def Itd (lo : Int) (n : Nat) : It := ⟨fun i _ => i < n, fun i H x H' => H' = H ∧ x = .int (lo - i), fun i _ => n ≤ i⟩
noncomputable def iRngD (ta : TA) : TI := fun σ H R => ta σ H fun vs H1 => ∃ i j : Int, vs = [.int i, .int j, .int (-1)] ∧ (-(2 ^ 62) ≤ i ∧ i < 2 ^ 62 ∧ -(2 ^ 62) ≤ j ∧ j < 2 ^ 62) ∧ R (Itd i (i - j).toNat) H1
section
variable {X : Cx} {tg : Expr}
theorem paired_get {α β : Type} {F : α → β → Prop} : ∀ {l₁ : List α} {l₂ : List β}, l₁.length = l₂.length → (∀ (i : Nat) a b, l₁[i]? = some a → l₂[i]? = some b → F a b) → Paired F l₁ l₂
  | [], [], _, _ => .nil
  | a :: l, b :: m, hl, h => .cons (h 0 a b rfl rfl) (paired_get (by simpa using hl) fun i x y hx hy => h (i + 1) x y (by simpa using hx) (by simpa using hy))
  | [], _ :: _, hl, _ => by simp at hl
  | _ :: _, [], hl, _ => by simp at hl
theorem range_at {n i j : Nat} (h : (List.range n)[i]? = some j) : i < n ∧ i = j := by
  by_cases c : i < n
  · rw [List.getElem?_range c] at h; cases h; exact ⟨c, rfl⟩
  · rw [List.getElem?_eq_none (by simpa using c)] at h; cases h
theorem vals_rng {acc : Array Value} {i : Int} {n : Nat} (h : ItemsOf (fun (k : Nat) v => ∃ t, v = Value.int (i + k * 1) t) acc n) : Vals ((List.range n).map fun k : Nat => V.int (i + k)) acc.toList := by
  refine paired_get (by rw [List.length_map, List.length_range, Array.length_toList, h.1]) fun k a b hx hy => ?_
  rw [List.getElem?_map] at hx
  obtain ⟨k', hk, rfl⟩ := Option.map_eq_some_iff.mp hx
  obtain ⟨_, rfl⟩ := range_at hk
  obtain ⟨t, e⟩ := h.2 k b (by rw [← Array.getElem?_toList]; exact hy)
  exact ⟨t, by rw [e, Int.mul_one]⟩
noncomputable def tLR (ta : TA) : TE := fun σ H Q => ta σ H fun vs H1 => ∃ i j : Int, vs = [.int i, .int j] ∧ (-(2 ^ 62) ≤ i ∧ i < 2 ^ 62 ∧ -(2 ^ 62) ≤ j ∧ j < 2 ^ 62) ∧ (j - i).toNat ≤ 100000 ∧ ∀ p, H1 p = none → Q (.ref p) (upd H1 p (.lst ((List.range (j - i).toNat).map fun k : Nat => V.int (i + (k : Int)))))
end
end L2
set_option Elab.async false
set_option linter.all false
set_option maxRecDepth 100000
namespace L2
open PySem PySem.Spec PyProof.Rows
section
variable {X : Cx} {N L : List Str} {sc : Scope} {x y : Str} {pos p : Pos}
theorem iZp {i : Nat} {es : List Expr} {kt : Nat} {pt : Pos} {a b : Expr} {ta : TA} (G : Gs L sc) (hm : X.mg "zip" = none) (ha : PA X [a, b] ta) (hc : X.calm = true := by rfl) (hL : L[i]? = some "zip" := by rfl) (h2 : X.env.scope = sc := by rfl) (hs : starEach [a, b] X.env = [(false, eval a X.env), (false, eval b X.env)] := by rfl) (hs2 : starEach [b] X.env = [(false, eval b X.env)] := by rfl) :
    PI X (.Tuple es kt pt) (.Call (.Name "zip" p) [a, b] [] pos) (iZip ta) :=
  pi_zip hc (glX G hL h2) hm ha hs hs2
end
end L2
set_option Elab.async false
set_option linter.all false
set_option maxRecDepth 100000
namespace L2
open PySem PySem.Spec PyProof.Rows
section
variable {κ : Type} [DecidableEq κ]
noncomputable def valV (kvs : List (κ × V)) (k : κ) : Option V := (kvs.find? fun kv => decide (kv.1 = k)).map (·.2)
noncomputable def putK (kvs : List (κ × V)) (k : κ) (v : V) : List (κ × V) :=
  if (kvs.any fun kv => decide (kv.1 = k)) = true then kvs.map (fun kv => if kv.1 = k then (kv.1, v) else kv) else kvs ++ [(k, v)]
noncomputable def dropK (kvs : List (κ × V)) (k : κ) : List (κ × V) := kvs.filter fun kv => decide (kv.1 ≠ k)
theorem valV_pos {p : κ × V} {r : List (κ × V)} {k : κ} (e : p.1 = k) : valV (p :: r) k = some p.2 := by simp [valV, List.find?_cons, e]
theorem valV_neg {p : κ × V} {r : List (κ × V)} {k : κ} (e : ¬ p.1 = k) : valV (p :: r) k = valV r k := by simp [valV, List.find?_cons, e]
theorem valV_any (k : κ) : ∀ kvs : List (κ × V), (kvs.any fun kv => decide (kv.1 = k)) = (valV kvs k).isSome
  | [] => rfl
  | p :: r => by
    rw [List.any_cons]
    by_cases e : p.1 = k
    · simp only [valV_pos e, decide_eq_true e, Bool.true_or, Option.isSome_some]
    · rw [valV_neg e, decide_eq_false e, Bool.false_or]; exact valV_any k r
theorem length_putK (kvs : List (κ × V)) (k : κ) (v : V) : (putK kvs k v).length ≤ kvs.length + 1 := by
  unfold putK
  split
  · rw [List.length_map]; omega
  · rw [List.length_append, List.length_cons, List.length_nil]; omega
theorem putK_new {kvs : List (κ × V)} {k : κ} (v : V) (h : valV kvs k = none) : putK kvs k v = kvs ++ [(k, v)] := by
  unfold putK
  rw [valV_any, h]
  exact if_neg (by decide)
theorem RelO.isSome_eq {o : Option V} {u : Option Value} (r : RelO o u) : o.isSome = u.isSome := by
  cases o with
  | none => cases u with
    | none => rfl
    | some _ => exact (show False from r).elim
  | some _ => cases u with
    | none => exact (show False from r).elim
    | some _ => rfl
theorem KV.val {kvs : List (κ × V)} {vs : List (κ × Value)} (r : KV kvs vs) (k : κ) : RelO (valV kvs k) (valueAt vs k) := by
  unfold KV at r
  induction r with
  | nil => exact True.intro
  | @cons p q ps qs h t ih =>
    obtain ⟨h1, h2⟩ := h
    by_cases e : p.1 = k
    · have e' : q.1 = k := h1.symm.trans e
      have b : valueAt (q :: qs) k = some q.2 := by simp [valueAt, List.find?_cons, e']
      rw [valV_pos e, b]; exact h2
    · have e' : ¬ q.1 = k := fun z => e (h1.trans z)
      have b : valueAt (q :: qs) k = valueAt qs k := by simp [valueAt, List.find?_cons, e']
      rw [valV_neg e, b]; exact ih
theorem KV.any {kvs : List (κ × V)} {vs : List (κ × Value)} (r : KV kvs vs) (k : κ) : (kvs.any fun kv => decide (kv.1 = k)) = vs.any fun kv => decide (kv.1 = k) := by
  unfold KV at r
  induction r with
  | nil => rfl
  | cons h t ih => rw [List.any_cons, List.any_cons, ih, h.1]
theorem KV.repl {kvs : List (κ × V)} {vs : List (κ × Value)} (r : KV kvs vs) (k : κ) {y : V} {u : Value} (ry : RelV y u) :
    KV (kvs.map fun kv => if kv.1 = k then (kv.1, y) else kv) (vs.map fun kv => if kv.1 = k then (kv.1, u) else kv) := by
  unfold KV at r ⊢
  induction r with
  | nil => exact .nil
  | @cons p q ps qs h t ih =>
    rw [List.map_cons, List.map_cons]
    refine .cons ?_ ih
    obtain ⟨h1, h2⟩ := h
    by_cases e : p.1 = k
    · rw [if_pos e, if_pos (h1.symm.trans e)]; exact ⟨h1, ry⟩
    · rw [if_neg e, if_neg (fun z => e (h1.trans z))]; exact ⟨h1, h2⟩
theorem KV.put {kvs : List (κ × V)} {vs : List (κ × Value)} (r : KV kvs vs) (k : κ) {y : V} {u : Value} (ry : RelV y u) : KV (putK kvs k y) (stored vs k u) := by
  unfold putK stored
  rw [r.any k]
  by_cases e : (vs.any fun kv => decide (kv.1 = k)) = true
  · rw [if_pos e, if_pos e]; exact r.repl k ry
  · rw [if_neg e, if_neg e]; exact Paired.snoc r ⟨rfl, ry⟩
theorem KV.length {kvs : List (κ × V)} {vs : List (κ × Value)} (r : KV kvs vs) : kvs.length = vs.length := Paired.length r
end
theorem kV_is {P : Program} {w : World} {k : Key} {u : Value} (r : RelV (kV k) u) : (mixKind P w).is k u = true := by
  cases k with
  | inl i => obtain ⟨t, e⟩ := (show ∃ t, u = Value.int i t from r); subst e; exact mixKind_int P w i t
  | inr x => obtain ⟨t, e⟩ := (show ∃ t, u = Value.str x t from r); subst e; exact mixKind_str P w x t
theorem items_are {P : Program} {w : World} : ∀ {ks : List Key} {us : List Value}, Vals (ks.map kV) us → ItemsAre (mixKind P w) ks us
  | [], _, r => by rw [List.map_nil] at r; cases r; exact .nil
  | k :: ks, _, r => by
    rw [List.map_cons] at r
    cases r with
    | cons h t => exact .cons (kV_is h) (items_are t)
noncomputable abbrev KT (H : Hp) : List (List Key × V) → List (List Key × Addr × Value) → Prop := Paired fun p q => p.1 = q.1 ∧ H q.2.1 = some (.tup (p.1.map kV)) ∧ RelV p.2 q.2.2
theorem KT.val {H : Hp} {kvs : List (List Key × V)} {xs : List (List Key × Addr × Value)} (r : KT H kvs xs) (k : List Key) : RelO (valV kvs k) ((atKey xs k).map (·.2)) := by
  induction r with
  | nil => exact True.intro
  | @cons p q ps qs h t ih =>
    obtain ⟨h1, _, h2⟩ := h
    by_cases e : p.1 = k
    · have e' : q.1 = k := h1.symm.trans e
      have b : atKey (q :: qs) k = some q.2 := by simp [atKey, List.find?_cons, e']
      rw [valV_pos e, b]; exact h2
    · have e' : ¬ q.1 = k := fun z => e (h1.trans z)
      have b : atKey (q :: qs) k = atKey qs k := by simp [atKey, List.find?_cons, e']
      rw [valV_neg e, b]; exact ih
theorem KT.repl {H : Hp} {kvs : List (List Key × V)} {xs : List (List Key × Addr × Value)} (r : KT H kvs xs) (k : List Key) {y : V} {u : Value} (ry : RelV y u) :
    KT H (kvs.map fun kv => if kv.1 = k then (kv.1, y) else kv) (xs.map (putAt k u)) := by
  induction r with
  | nil => exact .nil
  | @cons p q ps qs h t ih =>
    rw [List.map_cons, List.map_cons]
    refine .cons ?_ ih
    obtain ⟨h1, h2, h3⟩ := h
    unfold putAt
    by_cases e : p.1 = k
    · rw [if_pos e, if_pos (h1.symm.trans e)]; exact ⟨h1, h2, ry⟩
    · rw [if_neg e, if_neg (fun z => e (h1.trans z))]; exact ⟨h1, h2, h3⟩
theorem KT.put {H : Hp} {kvs : List (List Key × V)} {xs : List (List Key × Addr × Value)} (r : KT H kvs xs) (k : List Key) {b : Addr} {y : V} {u : Value} (hb : H b = some (.tup (k.map kV))) (ry : RelV y u) :
    KT H (putK kvs k y) (storedH xs k b u) := by
  have e : (kvs.any fun kv => decide (kv.1 = k)) = (atKey xs k).isSome := by
    rw [valV_any, (r.val k).isSome_eq, Option.isSome_map]
  unfold putK storedH
  rw [e]
  by_cases q : (atKey xs k).isSome = true
  · rw [if_pos q, if_pos q]; exact r.repl k ry
  · rw [if_neg q, if_neg q]; exact Paired.snoc r ⟨rfl, hb, ry⟩
theorem KT.keeps {H H' : Hp} {kvs : List (List Key × V)} {xs : List (List Key × Addr × Value)} (r : KT H kvs xs) (ht : ∀ b ys, H b = some (.tup ys) → H' b = some (.tup ys)) : KT H' kvs xs :=
  Paired.mapP r fun _ _ z => ⟨z.1, ht _ _ z.2.1, z.2.2⟩
section
variable {P : Program} {w : World} {H : Hp} {h : Heap} {a : Addr}
theorem rd_of {u : HO} (ok : HOk P w H h) (e : Rd H a u) : ObjOk P w H h a u := e.ok ok
theorem dk_rd {kvs : List (Key × V)} (ok : HOk P w H h) (e : Rd H a (.dK kvs)) : kvs.length ≤ sizeLine ∧ (a == sysModules) = false ∧ ∃ vs, KV kvs vs ∧ h.DictOf (mixKind P w) a vs :=
  show ObjOk P w H h a (.dK kvs) from rd_of ok e
theorem dk_of {kvs : List (Key × V)} (ok : HOk P w H h) (e : H a = some (.dK kvs)) : kvs.length ≤ sizeLine ∧ (a == sysModules) = false ∧ ∃ vs, KV kvs vs ∧ h.DictOf (mixKind P w) a vs := dk_rd ok (.inl e)
theorem key_of {ks : List Key} (ok : HOk P w H h) (e : H a = some (.tup (ks.map kV))) : (tupleKind (mixKind P w)).is h ks a := by
  obtain ⟨_, its, r, o, h1, h2, n, h3⟩ := (show ObjOk P w H h a (.tup (ks.map kV)) from ok a _ e)
  exact ⟨o, its.toArray, n, h1, h2, h3, by simpa using items_are r⟩
theorem dt_rd {kvs : List (List Key × V)} (ok : HOk P w H h) (e : Rd H a (.dT kvs)) : kvs.length ≤ sizeLine ∧ (a == sysModules) = false ∧
    ∃ xs, KT H kvs xs ∧ h.DictOfH (tupleKind (mixKind P w)) a xs := by
  obtain ⟨z, y, xs, r, o, es, ep, h1, h2, h3, h4, h5⟩ := (show ObjOk P w H h a (.dT kvs) from rd_of ok e)
  refine ⟨z, y, xs, r, o, es, ep, h1, h2, h3, h4, fun x hx => ?_, h5⟩
  have all : ∀ {l : List (List Key × V)} {m : List (List Key × Addr × Value)}, KT H l m → ∀ x ∈ m, (tupleKind (mixKind P w)).is h x.1 x.2.1 := by
    intro l m q
    induction q with
    | nil => intro x hx; exact nomatch hx
    | @cons p q ps qs hq t ih =>
      intro x hx
      rcases List.mem_cons.mp hx with e | hx
      · subst e
        exact key_of ok (by rw [← hq.1]; exact hq.2.1)
      · exact ih x hx
  exact all r x hx
theorem dt_of {kvs : List (List Key × V)} (ok : HOk P w H h) (e : H a = some (.dT kvs)) : kvs.length ≤ sizeLine ∧ (a == sysModules) = false ∧
    ∃ xs, KT H kvs xs ∧ h.DictOfH (tupleKind (mixKind P w)) a xs := dt_rd ok (.inl e)
end
noncomputable def DGet (H : Hp) (a : Addr) (y : V) (r : Option V) : Prop :=
  (∃ kvs k, Rd H a (.dK kvs) ∧ y = kV k ∧ r = valV kvs k) ∨ ∃ kvs k b, Rd H a (.dT kvs) ∧ y = .ref b ∧ H b = some (.tup (k.map kV)) ∧ r = valV kvs k
noncomputable def DPut (H : Hp) (a : Addr) (y v : V) (H' : Hp) : Prop :=
  (∃ kvs k, H a = some (.dK kvs) ∧ y = kV k ∧ kvs.length < sizeLine ∧ H' = upd H a (.dK (putK kvs k v))) ∨
  ∃ kvs k b, H a = some (.dT kvs) ∧ y = .ref b ∧ H b = some (.tup (k.map kV)) ∧ kvs.length < sizeLine ∧ H' = upd H a (.dT (putK kvs k v))
theorem DGet.k {H : Hp} {a : Addr} {kvs : List (Key × V)} {k : Key} (e : H a = some (.dK kvs)) : DGet H a (kV k) (valV kvs k) := .inl ⟨kvs, k, .inl e, rfl, rfl⟩
theorem DPut.k {H : Hp} {a : Addr} {kvs : List (Key × V)} {k : Key} {v : V} (e : H a = some (.dK kvs)) (hl : kvs.length < sizeLine) : DPut H a (kV k) v (upd H a (.dK (putK kvs k v))) := .inl ⟨kvs, k, e, rfl, hl, rfl⟩
section
variable {X : Cx} {pins : List (Addr × Obj)} {σ : St} {H : Hp} {s : Shared} {a : Addr} {y v : V} {u r : Value} {o : Option V} {A : Around} {E : Value → Shared → Prop}
theorem Inv.big (I : Inv X pins σ H s) : sysModules < s.heap.objs.size := by
  have h : mainGlobals < s.heap.objs.size := (I.mod.glob.keeps I.bk).lt
  exact Nat.lt_trans (by decide) h
theorem d_in {Q : Value → Shared → Prop} (hu : A.units + 1 < cLine) (I : Inv X pins σ H s) (g : DGet H a y o) (ry : RelV y u) (h : ∀ s', Inv X pins σ H s' → Q (.bool o.isSome) s') :
    wpAny (model X.prog X.w) A (compareOp .In u (.ref a)) Q E s := by
  rcases g with ⟨kvs, k, e, ey, l⟩ | ⟨kvs, k, b, e, ey, eb, l⟩
  · subst ey
    obtain ⟨z, hd, vs, rel, dd⟩ := dk_rd I.hok e
    refine wpAny_in_of (kV_is ry) hd dd.mapOf ?_
    rw [← (rel.val k).isSome_eq, ← l]
    exact h _ (I.tok _)
  · subst ey
    cases (show u = Value.ref b from ry)
    obtain ⟨z, hd, xs, rel, dd⟩ := dt_rd I.hok e
    refine wpAny_in_heap (tupleKind_room_in1 hu) (key_of I.hok eb) hd dd ?_
    have q := (rel.val k).isSome_eq
    rw [Option.isSome_map] at q
    rw [← q, ← l]
    exact h _ (I.tok _)
theorem d_write {h' : Heap} {t' : Nat} {ob : HO} (I : Inv X pins σ H s) (mu : Mut (H a)) (hs : Heap.SameBut a s.heap h') (he : ∃ q, h'.get? a = some q) (new : ObjOk X.prog X.w (upd H a ob) h' a ob) :
    Inv X pins σ (upd H a ob) { s with heap := h', toks := t' } :=
  I.write (x := a) (e := a) mu (.inl rfl) (fun b q hb z => (hs.2 b hb).trans z) he new
theorem dk_new {P : Program} {w : World} {H' : Hp} {h' : Heap} {kvs : List (Key × V)} {vs : List (Key × Value)} (z : kvs.length ≤ sizeLine) (hd : (a == sysModules) = false) (rel : KV kvs vs) (dd : h'.DictOf (mixKind P w) a vs) :
    ObjOk P w H' h' a (.dK kvs) := ⟨z, hd, vs, rel, dd⟩
theorem d_setItem {H' : Hp} {Q : Unit → Shared → Prop} (hu : A.units + 1 < cLine) (I : Inv X pins σ H s) (g : DPut H a y v H') (ry : RelV y u) (rv : RelV v r) (h : ∀ s', Inv X pins σ H' s' → Q () s') :
    wpAny (model X.prog X.w) A (setItem (.ref a) u r) Q E s := by
  rcases g with ⟨kvs, k, e, ey, l, eH⟩ | ⟨kvs, k, b, e, ey, eb, l, eH⟩
  · subst ey eH
    obtain ⟨z, hd, vs, rel, dd⟩ := dk_of I.hok e
    have hz : vs.length ≤ sizeLine := by rw [← rel.length]; exact z
    have hl : (putK kvs k v).length ≤ sizeLine := by have := length_putK kvs k v; omega
    refine wpAny_setItem_pairs (hsz := hz) (kV_is ry) dd fun h' dd' hs => h _ ?_
    have he : ∃ q, h'.get? a = some q := let ⟨q, _, _, hq, _⟩ := dd'; ⟨q, hq⟩
    exact d_write I (by rw [e]; exact True.intro) hs he (dk_new hl hd (rel.put k rv) dd')
  · subst ey eH
    cases (show u = Value.ref b from ry)
    obtain ⟨z, hd, xs, rel, dd⟩ := dt_of I.hok e
    have hz : xs.length ≤ sizeLine := by rw [← Paired.length rel]; exact z
    have hl : (putK kvs k v).length ≤ sizeLine := by have := length_putK kvs k v; omega
    refine wpAny_setItem_heap (hsz := hz) (tupleKind_room_in1 hu) (key_of I.hok eb) dd fun h' dd' hs => h _ ?_
    obtain ⟨q, es, ep, hq, h2, h3, h4, _, h5⟩ := dd'
    refine d_write I (by rw [e]; exact True.intro) hs ⟨q, hq⟩ ⟨hl, hd, _, (rel.put k eb rv).keeps fun c ys ec => ?_, q, es, ep, hq, h2, h3, h4, h5⟩
    rw [upd_ne (ne_of ec e (fun z => nomatch z))]
    exact ec
end
section
variable {X : Cx} {pins : List (Addr × Obj)} {σ : St} {H : Hp} {s : Shared} {a : Addr} {kvs : List (Key × V)} {k : Key} {u : Value} {A : Around} {E : Value → Shared → Prop}
end
noncomputable def NoSl (i : Expr) : Prop := ∀ ov iv, subscripted i false ov iv = operate [ov, iv] (getItem ov iv)
noncomputable def tDGet (td ty : TE) : TE := fun σ H Q => td σ H fun x H1 => ty σ H1 fun y H2 => ∃ a v, x = .ref a ∧ DGet H2 a y (some v) ∧ Q v H2
noncomputable def tDIn (ty td : TE) : TE := fun σ H Q => ty σ H fun y H1 => td σ H1 fun x H2 => ∃ a o, x = .ref a ∧ DGet H2 a y o ∧ Q (.bl o.isSome) H2
noncomputable def tDNotIn (ty td : TE) : TE := fun σ H Q => ty σ H fun y H1 => td σ H1 fun x H2 => ∃ a o, x = .ref a ∧ DGet H2 a y o ∧ Q (.bl (!o.isSome)) H2
noncomputable def sDPut (td ty tv : TE) : TS := fun D σ H => tv σ H fun v H1 => td σ H1 fun x H2 => ty σ H2 fun y H3 => ∃ a H4, x = .ref a ∧ DPut H3 a y v H4 ∧ D.nx σ H4
noncomputable def sDAug (td ty tv : TE) (rd : V → V → Hp → VK → Prop) : TS := fun D σ H => td σ H fun x H1 => ty σ H1 fun y H2 => ∃ a v, x = .ref a ∧ DGet H2 a y (some v) ∧
  tv σ H2 fun y2 H3 => rd v y2 H3 fun z H4 => ∃ H5, DPut H4 a y z H5 ∧ D.nx σ H5
noncomputable def sDDel (td ty : TE) : TS := fun D σ H => td σ H fun x H1 => ty σ H1 fun y H2 => ∃ a kvs k, x = .ref a ∧ H2 a = some (.dK kvs) ∧ y = kV k ∧ (valV kvs k).isSome = true ∧ D.nx σ (upd H2 a (.dK (dropK kvs k)))
section
variable {X : Cx} {o i e value : Expr} {pos pos' tpos : Pos} {td ty tv : TE}
theorem pc_din (hu : X.A.units + 1 < cLine) (hi : PE X i ty) (ho : PE X o td) : PC X .In i o (tDIn ty td) := by
  constructor
  intro pins s σ H Q I h
  refine thn (hi pins s σ H _ I h) fun iv s1 ⟨y, H1, I1, ry, q1⟩ => thn (ho pins s1 σ H1 _ I1 q1) fun u s2 ⟨x, H2, I2, rx, a, ov, ex, g, q2⟩ => ?_
  subst ex
  obtain rfl : u = Value.ref a := rx
  exact d_in hu I2 g ry fun s3 I3 => ⟨.bl ov.isSome, H2, I3, rfl, q2⟩
theorem ps_dput (hu : X.A.units + 1 < cLine) (ho : PE X o td) (hi : PE X i ty) (hv : PE X value tv) (hs : swapsWith value (some (.Subscript o i pos')) pos.line X.env = pure false) :
    PS X (.Assign [.Subscript o i pos'] value pos) (sDPut td ty tv) := by
  constructor
  intro pins s σ H D I h
  refine wpAny_Assign_Subscript (thn (hv pins s σ H _ I h) fun r s1 ⟨v, H1, I1, rv, q1⟩ => thn (ho pins s1 σ H1 _ I1 q1) fun u s2 ⟨x, H2, I2, rx, q2⟩ => thn (hi pins s2 σ H2 _ I2 q2) fun iv s3 ⟨y, H3, I3, ry, a, H4, ex, g, q3⟩ => ?_) hs
  subst ex
  obtain rfl : u = Value.ref a := rx
  exact d_setItem hu I3 g ry rv fun s4 I4 => ⟨σ, H4, I4, q3⟩
end
theorem dk_empty {P : Program} {w : World} {H : Hp} (h : Heap) (hb : sysModules < h.objs.size) : ObjOk P w H (h.push { cls := .type "dict", data := .dict #[] }) h.objs.size (.dK []) :=
  ⟨Nat.zero_le _, beq_eq_false_iff_ne.mpr (Ne.symm (Nat.ne_of_lt hb)), [], .nil, Heap.DictOf.new h⟩
noncomputable def tDNewK : TE := fun _ H Q => ∀ p, H p = none → Q (.ref p) (upd H p (.dK []))
noncomputable def tDNewT : TE := fun _ H Q => ∀ p, H p = none → Q (.ref p) (upd H p (.dT []))
section
variable {X : Cx} {pos : Pos}
theorem pe_dnewK : PE X (.Dict [] [] pos) tDNewK := .mk fun pins s σ H Q I h =>
  wpAny_Dict_empty ⟨.ref s.heap.objs.size, _, I.laid (a := s.heap.objs.size) (o := .dK []) (t' := s.toks) (fun _ _ q => Heap.get?_push_of_some _ q) (Nat.le_refl _) (dk_empty s.heap I.big), rfl, h _ (I.hok.fresh (Nat.le_refl _))⟩
end
noncomputable def tPairs : List (TE × TE) → St → Hp → (List (V × V) → Hp → Prop) → Prop
  | [], _, H, Q => Q [] H
  | (tk, tv) :: r, σ, H, Q => tk σ H fun x H1 => tv σ H1 fun y H2 => tPairs r σ H2 fun ps H3 => Q ((x, y) :: ps) H3
noncomputable abbrev VV : List (V × V) → List (Value × Value) → Prop := Paired fun p q => RelV p.1 q.1 ∧ RelV p.2 q.2
noncomputable def PPs (X : Cx) (pos : Pos) (keys : List (Option Expr)) (values : List Expr) (trs : List (TE × TE)) : Prop :=
  ∀ (pins : List (Addr × Obj)) (s : Shared) (σ : St) (H : Hp) (Q : List (V × V) → Hp → Prop), Inv X pins σ H s → tPairs trs σ H Q →
    wpAny (model X.prog X.w) X.A (evalPairs (pairTrees keys values X.env pos)) (fun vs s' => ∃ ps H', Inv X pins σ H' s' ∧ VV ps vs ∧ Q ps H') X.xe s
noncomputable def mergeK (kvs more : List (Key × V)) : List (Key × V) := more.foldl (fun acc kv => putK acc kv.1 kv.2) kvs
noncomputable def tDisp (trs : List (TE × TE)) : TE := fun σ H Q => ∀ p, H p = none → tPairs trs σ (upd H p (.dK [])) fun ps H2 => H2 p = some (.dK []) ∧ ∃ kvs : List (Key × V), ps = kvs.map (fun kv => (kV kv.1, kv.2)) ∧ kvs.length ≤ 15 ∧ Q (.ref p) (upd H2 p (.dK (mergeK [] kvs)))
structure M1 (X : Cx) (o : Expr) (m : Str) (apos : Pos) (e : Expr) (cpos : Pos) : Prop where
  base : attributeBase o m X.env (eval o X.env) = eval o X.env
  few : ((backTo cpos (starEach [e] X.env)).all (fun x => !x.1) && (backToKw cpos (keywordEach [] X.env)).all (fun x => x.1.isSome)
    && decide (([e] : List Expr).length + ([] : List Keyword).length + (if ([] : List Keyword).isEmpty then 0 else 1) < 30)) = true
  line : (apos.endLine == cpos.line) = true
  trees : backTo cpos (starEach [e] X.env) = [(false, eval e X.env)]
structure M2 (X : Cx) (o : Expr) (m : Str) (apos : Pos) (e f : Expr) (cpos : Pos) : Prop where
  base : attributeBase o m X.env (eval o X.env) = eval o X.env
  few : ((backTo cpos (starEach [e, f] X.env)).all (fun x => !x.1) && (backToKw cpos (keywordEach [] X.env)).all (fun x => x.1.isSome)
    && decide (([e, f] : List Expr).length + ([] : List Keyword).length + (if ([] : List Keyword).isEmpty then 0 else 1) < 30)) = true
  line : (apos.endLine == cpos.line) = true
  trees : backTo cpos (starEach [e, f] X.env) = [(false, eval e X.env), (false, eval f X.env)]
noncomputable def IsD (H : Hp) (a : Addr) : Prop := (∃ kvs, Rd H a (.dK kvs)) ∨ ∃ kvs, Rd H a (.dT kvs)
section
variable {X : Cx} {pins : List (Addr × Obj)} {σ : St} {H : Hp} {s : Shared} {a : Addr} {y d : V} {u r : Value} {o : Option V} {A : Around} {E : Value → Shared → Prop}
end
noncomputable def tDGet1 (td ty : TE) : TE := fun σ H Q => td σ H fun x H1 => ∃ a, x = .ref a ∧ IsD H1 a ∧ ty σ H1 fun y H2 => ∃ o, DGet H2 a y o ∧ Q (o.getD .non) H2
noncomputable def tDGet2 (td ty tx : TE) : TE := fun σ H Q => td σ H fun x H1 => ∃ a, x = .ref a ∧ IsD H1 a ∧ ty σ H1 fun y H2 => tx σ H2 fun z H3 => ∃ o, DGet H3 a y o ∧ Q (o.getD z) H3
noncomputable def tDPop1 (td ty : TE) : TE := fun σ H Q => td σ H fun x H1 => ∃ a, x = .ref a ∧ IsD H1 a ∧ ty σ H1 fun y H2 => ∃ kvs k v, H2 a = some (.dK kvs) ∧ y = kV k ∧ valV kvs k = some v ∧ Q v (upd H2 a (.dK (dropK kvs k)))
noncomputable def tDPop2 (td ty tx : TE) : TE := fun σ H Q => td σ H fun x H1 => ∃ a, x = .ref a ∧ IsD H1 a ∧ ty σ H1 fun y H2 => tx σ H2 fun z H3 => ∃ kvs k, H3 a = some (.dK kvs) ∧ y = kV k ∧
  (∀ v, valV kvs k = some v → Q v (upd H3 a (.dK (dropK kvs k)))) ∧ (valV kvs k = none → Q z H3)
section
variable {X : Cx} {o e f : Expr} {apos cpos : Pos} {td ty tx : TE}
end
section
variable {X : Cx} {pins : List (Addr × Obj)} {σ : St} {H : Hp} {s : Shared} {a : Addr} {kvs : List (Key × V)} {A : Around} {E : Value → Shared → Prop}
end
section
variable {X : Cx} {pins : List (Addr × Obj)} {σ : St} {H : Hp} {s : Shared} {a : Addr} {y : V} {u : Value} {A : Around} {E : Value → Shared → Prop}
end
end L2
namespace L2
open PySem PySem.Spec PyProof.Rows
section
variable {κ : Type} [DecidableEq κ]
end
end L2
set_option Elab.async false
set_option linter.all false
set_option maxRecDepth 100000
namespace L2
open PySem PySem.Spec PyProof.Rows
structure CompSc2 (N : List Str) (fsc : Scope) (scope : Scope) (Nc : List Str) (caps : List (Option Nat)) : Prop where
  kind : scope.kind = .function
  nocell : ∀ y ∈ scope.names, y.2 ≠ .cell
  loc : ∀ y ∈ scope.names, y.2 = .local → scope.names.lookup y.1 = some .local
  fre : ∀ y ∈ scope.names, y.2 = .free → fsc.names.lookup y.1 = some .cell ∨ fsc.names.lookup y.1 = some .free
  len : caps.length = Nc.length
  nd : Nc.Nodup
  cap : (Nc.zip caps).all (capOk N scope) = true
noncomputable def GKeep (caps : List (Option Nat)) (g : TG) : Prop := ∀ (x : V) (σ : St) (H : Hp) (Q : St → Hp → Prop), g x σ H Q → g x σ H fun σ2 H2 => Q σ2 H2 ∧ σ2.length = σ.length ∧ ∀ (i k : Nat), caps[i]? = some (some k) → σ2[i]? = σ[i]?
noncomputable def CompG (J : It) (caps : List (Option Nat)) (g : TG) (ti : TT) (te : TE) (σ : St) (H1 : Hp) (D : Addr) (Q : VK) : Prop :=
  ∃ W : Nat → Nat → Hp → Prop, (∃ m, W 0 m (upd H1 D (.lst []))) ∧ ∀ i m H2, W i m H2 →
    (J.stop i H2 ∧ Q (.ref D) H2) ∨ (J.go i H2 ∧ ∀ x H3, J.yld i H2 x H3 → g x (capOf caps σ) H3 fun σ2 H3' => ti σ2 H3' fun b H4 => if b = true then te σ2 H4 fun v H5 =>
      ∃ ys, H5 D = some (.lst ys) ∧ ys.length < sizeLine ∧ ∃ m', m' < m ∧ W (i + 1) m' (upd H5 D (.lst (ys ++ [v]))) else ∃ m', m' < m ∧ W (i + 1) m' H4)
noncomputable def tCompG (wi : TI) (caps : List (Option Nat)) (g : TG) (ti : TT) (te : TE) : TE := fun σ H Q => wi σ H fun J H1 => ∀ D, H1 D = none → CompG J caps g ti te σ H1 D Q
theorem comp_core {X : Cx} {use : Option (Value → Sem Unit)} {Qv : Value → Shared → Prop} {pins : List (Addr × Obj)} {s : Shared} {σ : St} {H : Hp} {Q : VK} {elt iter tg : Expr} {g : TG} {ifs : List Expr} {scope : Scope} {pos : Pos} {N Nc : List Str} {fsc : Scope} {caps : List (Option Nat)} {wi : TI} {ti : TT} {te : TE} (S : CompSc2 N fsc scope Nc caps)
    (hi : PI X tg iter wi) (hg : ∀ cl C fp pn s₀ H₀, PG (compCx X scope Nc cl C fp pn s₀ H₀) tg g) (hk : GKeep caps g) (hif : ∀ cl C fp pn s₀ H₀, PF (compCx X scope Nc cl C fp pn s₀ H₀) ifs ti) (he : ∀ cl C fp pn s₀ H₀, PE (compCx X scope Nc cl C fp pn s₀ H₀) elt te)
    (hN : X.N = N) (hS : X.env.scope = fsc) (hs : ∀ y, foldedSetIterable iter X.env y = pure y) (I : Inv X pins σ H s) (h : tCompG wi caps g ti te σ H Q) {fpos : Pos}
    (hdone : ∀ (D C : Addr) (H6 : Hp) (s7 : Shared) (m : Str → Option Value), Inv X pins σ H6 s7 → s7.heap.Ns C m → FpOk X pins H6 C → Q (.ref D) H6 → compPost (model X.prog X.w) X.A X.xe use Qv (.ref D) C (.ok .next) s7) :
    wpAny (model X.prog X.w) X.A (comprehension (.ListComp elt [⟨tg, iter, ifs, 0⟩] scope pos) scope X.env fpos (newList []) false (eval iter X.env) use) Qv X.xe s := by
  subst hN hS
  obtain ⟨cl, hcl, hc1, hc2⟩ := closure_ok (scope := scope) (env := X.env) fun n hn => by
    refine I.ok.has n ?_
    exact S.fre _ hn rfl
  refine wpAny_comprehension_free (use := use) rfl hs hcl S.kind S.loc (thn (hi pins s σ H _ I h) fun v s1 h1 => thn h1 fun itv s2 h2 => ?_)
  obtain ⟨it, fp, tn, J, H2, rfl, I2, T, st2, f2, hR⟩ := h2
  obtain ⟨W, ⟨m0, w0⟩, turn⟩ := hR s2.heap.objs.size (I2.hok.fresh (Nat.le_refl _))
  have I3 := I2.lnew (its := []) (t' := s2.toks) .nil (Nat.zero_le _)
  refine wpAny_newObj_type (wpAny_newFunctionEnv S.nocell (by intro y hy; simp at hy) (fun h₁ hns₁ hsb₁ => ?_) S.kind)
  have hsz : (s2.heap.push { cls := .type "list", data := .seq ([] : List Value).toArray }).objs.size = s2.heap.objs.size + 1 := Heap.size_push ..
  generalize hs3 : ({ s2 with heap := s2.heap.push { cls := .type "list", data := .seq ([] : List Value).toArray } } : Shared) = s3 at I3 hns₁ hsb₁ ⊢
  have h3 : s3.heap = s2.heap.push { cls := .type "list", data := .seq ([] : List Value).toArray } := by rw [← hs3]
  have k4 : ∀ b u, s3.heap.get? b = some u → h₁.get? b = some u := fun b u q => hsb₁.extBut b u (Nat.ne_of_lt (Heap.lt_size q)) (Heap.get?_push_of_some _ q)
  have lt2 : ∀ b ∈ fp, b < s3.heap.objs.size := fun b hb => by
    obtain ⟨o, q, _⟩ := T.obj _ _ st2 b hb
    rw [h3, hsz]
    exact Nat.lt_succ_of_lt (Heap.lt_size q)
  have nst : ∀ b ∈ fp, b ∉ frs X.stack := fun b hb hm => by
    obtain ⟨_, f1, f3, _⟩ := f2 b hb
    exact (List.mem_cons.mp (I2.stkSub b hm)).elim f1 f3
  have nD : ∀ b ∈ fp, b ≠ s2.heap.objs.size := fun b hb z => by
    obtain ⟨o, q, _⟩ := T.obj _ _ st2 b hb
    exact absurd (Heap.lt_size q) (by rw [z]; exact Nat.lt_irrefl _)
  have pinS : ∀ p ∈ X.pn ++ pins, p.1 ∉ frs X.stack := fun p hp hm => by
    obtain ⟨_, _, ne, nf, _⟩ := I3.pin p hp
    exact (List.mem_cons.mp (I3.stkSub p.1 hm)).elim ne nf
  have relK : ∀ y k, (relabel scope X.env).names.lookup y = some k → scope.names.lookup y = some k ∨ (k = .cell ∧ scope.names.lookup y = some .free) := fun y k q => lookup_relabel q
  have okC : (compCx X scope Nc cl s3.heap.objs.size fp (X.pn ++ pins) s3 (upd H2 s2.heap.objs.size (.lst []))).Ok := by
    refine ⟨I.ok.mod, S.kind, I.ok.glob, I.ok.blt, Nat.le_refl _, fun y z c q1 q2 => I.ok.inj y z c (hc1 y c q1).1 (hc1 z c q2).1, fun y hy => ?_, (fun y c z => nomatch z), I.ok.hd, I.ok.frames, .inl rfl, fun b hb => ⟨Nat.ne_of_lt (lt2 b hb), fun y c e => (f2 b hb).2.2.2.2.1 y c (hc1 y c e).1⟩,
      I3.bs, Nat.le_trans I.ok.bsz I3.sz, fun b o e hb => ?_, nst, I3.stack, I3.stkFree, I.ok.hnd⟩
    · have hm : (y, NameKind.free) ∈ scope.names := by
        have q : scope.names.lookup y = some .free := by
          rcases hy with hy | hy
          · rcases relK y _ hy with q | q
            · exact absurd rfl (S.nocell _ (PySem.mem_of_lookup q))
            · exact q.2
          · rcases relK y _ hy with q | q
            · exact q
            · exact absurd q.1 (by decide)
        exact PySem.mem_of_lookup q
      exact Option.isSome_iff_exists.mp (hc2 y hm)
    · rcases (f2 b hb).2.2.2.1 with z | z
      · exact I.ok.noex b o e z
      · exact absurd (Nat.lt_of_lt_of_le (Heap.lt_size (I.ok.bs b o e).1) z) (Nat.lt_irrefl _)
  have lenC : (capOf caps σ).length = Nc.length := by unfold capOf; rw [List.length_map]; exact S.len
  have I4 : Inv (compCx X scope Nc cl s3.heap.objs.size fp (X.pn ++ pins) s3 (upd H2 s2.heap.objs.size (.lst []))) [] (capOf caps σ) (upd H2 s2.heap.objs.size (.lst [])) { s3 with heap := h₁, toks := s3.toks + ([] : List (Str × Value)).length } := by
    refine ⟨okC, rfl, I3.bare, Un.kept k4, ⟨_, hns₁, fun i y v e1 e2 e3 => ?_⟩, fun y c e => ?_, I3.hok.fresh (Nat.le_refl _), fun y c e => I3.freeC y c (hc1 y c e).1, fun p hp => ?_, I3.hok.kept k4, lenC, I3.hxs⟩
    · obtain ⟨k, e4, e5⟩ := capOf_get e2
      have hz : (y, some k) ∈ Nc.zip caps := by
        refine List.mem_of_getElem? (i := i) ?_
        rw [List.getElem?_zip_eq_some]
        exact ⟨e1, e4⟩
      have hcap := List.all_eq_true.mp S.cap _ hz
      simp only [capOk, Bool.and_eq_true, decide_eq_true_eq] at hcap
      obtain ⟨c1, c2⟩ := hcap
      have fr := S.fre _ (PySem.mem_of_lookup c2) rfl
      obtain ⟨m, hn, hl⟩ := I3.loc
      obtain ⟨u, r, l⟩ := hl k y v c1 e5 (fr.elim (fun z => .inr (.inl z)) fun z => .inr (.inr z))
      refine ⟨u, r, ?_⟩
      rcases l with ⟨z, _⟩ | ⟨_, c, e6, e7⟩
      · have z' : X.env.scope.names.lookup y = some .local := z
        rcases fr with q | q
        · rw [z'] at q; cases q
        · rw [z'] at q; cases q
      · refine .inr ⟨?_, c, ?_, ?_⟩
        · rcases e3 with q | q | q
          · rcases relK y _ q with z | z
            · rw [c2] at z; cases z
            · exact absurd z.1 (by decide)
          · exact .inl q
          · exact .inr q
        · obtain ⟨c', z⟩ := Option.isSome_iff_exists.mp (hc2 y (PySem.mem_of_lookup c2))
          have := (hc1 y c' z).1
          rw [e6] at this; cases this
          exact z
        · obtain ⟨oc, z1, z2⟩ := e7
          exact ⟨oc, k4 _ _ z1, z2⟩
    · obtain ⟨v, oc, z1, z2⟩ := I3.cell y c (hc1 y c e).1
      exact ⟨v, oc, k4 _ _ z1, z2⟩
    · rw [List.append_nil] at hp
      obtain ⟨e, n, ne, nf, d⟩ := I3.pin p hp
      exact ⟨k4 _ _ e, n, Nat.ne_of_lt (Heap.lt_size e), pinS p hp, d⟩
  have st4 : tn 0 h₁ := T.keep _ _ _ st2 fun b hb o q => k4 b o (by rw [h3]; exact Heap.get?_push_of_some _ q)
  have fr4 : ∀ b ∈ fp, (upd H2 s2.heap.objs.size (.lst [])) b = none := fun b hb => by rw [upd_ne (nD b hb)]; exact (f2 b hb).1
  have stat : ∀ {H' : Hp}, (∀ b ∈ fp, H' b = none) → ∀ b ∈ fp, FpOk (compCx X scope Nc cl s3.heap.objs.size fp (X.pn ++ pins) s3 (upd H2 s2.heap.objs.size (.lst []))) [] H' b := fun hn b hb => by
    obtain ⟨g0, g1, g2, g3, g4, g5⟩ := f2 b hb
    exact ⟨hn b hb, Nat.ne_of_lt (lt2 b hb), nst b hb, .inl hb, fun y c e => g4 y c (hc1 y c e).1, fun p hp => g5 p (by rw [List.append_nil] at hp; exact hp)⟩
  have loop : ∀ s5 : Shared, s5 = { s3 with heap := h₁, toks := s3.toks + ([] : List (Str × Value)).length } →
      codeAny (model X.prog X.w) X.A (.compLoop (.ListComp elt [⟨tg, iter, ifs, 0⟩] scope pos) 0 (.ref it) (.ref s2.heap.objs.size) (compEnvC scope cl s3.heap.objs.size X.env)) (compPost (model X.prog X.w) X.A X.xe use Qv (.ref s2.heap.objs.size) s3.heap.objs.size) s5 := by
    intro s5 e5
    refine comp_loop (fun n s' => ∃ i H', Inv (compCx X scope Nc cl s3.heap.objs.size fp (X.pn ++ pins) s3 (upd H2 s2.heap.objs.size (.lst []))) [] (capOf caps σ) H' s' ∧ tn i s'.heap ∧ (∀ b ∈ fp, H' b = none) ∧ W i n H') ?_ m0 ⟨0, _, by rw [e5]; exact I4, by rw [e5]; exact st4, fr4, w0⟩
    rintro n s6 ⟨i, H6, I6, st6, fr6, w6⟩
    rcases turn i n H6 w6 with ⟨stop, qn⟩ | ⟨go, step⟩
    · refine thn (T.done (compCx X scope Nc cl s3.heap.objs.size fp (X.pn ++ pins) s3 (upd H2 s2.heap.objs.size (.lst []))) rfl rfl rfl rfl i [] s6 _ H6 _ I6 (stat fr6) st6 stop) fun r s7 ⟨hr, I7⟩ => ?_
      subst hr
      obtain ⟨m, hn, _⟩ := id I7.loc
      have hfree : H6 s3.heap.objs.size = none := I7.free
      refine hdone s2.heap.objs.size s3.heap.objs.size H6 s7 m ?_ hn (I3.fpOk (Nat.le_refl _) hfree) qn
      have un := I7.base
      refine I3.call' (s' := s7) (ch := fp) I7.os ⟨un.keep, un.slot, un.free, un.there, un.tups, un.frzs, un.tbls⟩ (fun b u e => ?_) I7.bare fun b hb => ?_
      · exact I7.hok b u e
      · obtain ⟨g0, g1, g2, g3, g4, g5⟩ := f2 b hb
        exact ⟨g3, g1, g4, g5⟩
    · refine thn (T.item (compCx X scope Nc cl s3.heap.objs.size fp (X.pn ++ pins) s3 (upd H2 s2.heap.objs.size (.lst []))) rfl rfl rfl rfl i [] s6 _ H6 _ I6 (stat fr6) st6 go) fun r s7 ⟨u, hr, h7⟩ => ?_
      subst hr
      refine thn h7 fun _ s8 ⟨y, H8, I8, r8, y8, st8, fr8⟩ => ?_
      have I8' := I8.pinned (stat fr8) (T.obj _ _ st8)
      refine thn (hg cl s3.heap.objs.size fp (X.pn ++ pins) s3 _ _ s8 _ H8 y u _ I8' r8 (hk _ _ _ _ (step y H8 y8))) fun _ s9 ⟨σ9, H9, I9, q9, l9, k9⟩ => ?_
      have weak : ∀ {H' : Hp} {s' : Shared}, Inv (compCx X scope Nc cl s3.heap.objs.size fp (X.pn ++ pins) s3 (upd H2 s2.heap.objs.size (.lst []))) ([] ++ pinsAt fp s8.heap) σ9 H' s' →
          Inv (compCx X scope Nc cl s3.heap.objs.size fp (X.pn ++ pins) s3 (upd H2 s2.heap.objs.size (.lst []))) [] (capOf caps σ) H' s' ∧ tn (i + 1) s'.heap ∧ (∀ b ∈ fp, H' b = none) := fun {H' s'} J => by
        refine ⟨(J.weak (σ' := capOf caps σ) l9.symm fun i' v e => ?_).unpinned, T.keep _ _ _ st8 fun b hb o e => (J.pin (b, o) (List.mem_append_right _ (List.mem_append_right _ (mem_pinsAt hb e)))).1, fun b hb => ?_⟩
        · obtain ⟨k, e4, _⟩ := capOf_get e
          rw [k9 i' k e4]
          exact e
        · obtain ⟨o, e, d⟩ := T.obj _ _ st8 b hb
          exact (J.pin (b, o) (List.mem_append_right _ (List.mem_append_right _ (mem_pinsAt hb e)))).2.1
      refine thn (hif cl s3.heap.objs.size fp (X.pn ++ pins) s3 _ _ s9 _ H9 _ I9 q9) fun b s10 ⟨H10, I10, q10⟩ => ?_
      cases b with
      | false =>
        obtain ⟨m', hm, w'⟩ := q10
        obtain ⟨J, t1, f1⟩ := weak I10
        exact ⟨m', hm, i + 1, H10, J, t1, f1, w'⟩
      | true =>
        rw [if_pos rfl]
        refine thn (he cl s3.heap.objs.size fp (X.pn ++ pins) s3 _ _ s10 _ H10 _ I10 q10) fun e s11 ⟨ev, H11, I11, r11, ys, hD, hl, m', hm, w'⟩ => ?_
        refine thn (mt_append _ s11 _ H11 (.ref s2.heap.objs.size) [ev] (.ref s2.heap.objs.size) [e] (fun v H' => v = .non ∧ H' = upd H11 s2.heap.objs.size (.lst (ys ++ [ev]))) I11 rfl (.cons r11 .nil) ⟨_, ys, ev, rfl, rfl, hD, hl, rfl, rfl⟩) fun _ s12 ⟨v12, H12, I12, _, _, e12⟩ => ?_
        subst e12
        obtain ⟨J, t1, f1⟩ := weak I12
        exact ⟨m', hm, i + 1, _, J, t1, f1, w'⟩
  exact codeAny_compStart_list (loop _ rfl) (T.self _ 0 _ _ _ st4 (loop _ rfl))
theorem pe_compG {X : Cx} {elt iter tg : Expr} {g : TG} {ifs : List Expr} {scope : Scope} {pos : Pos} {N Nc : List Str} {fsc : Scope} {caps : List (Option Nat)} {wi : TI} {ti : TT} {te : TE} (S : CompSc2 N fsc scope Nc caps)
    (hi : PI X tg iter wi) (hg : ∀ cl C fp pn s₀ H₀, PG (compCx X scope Nc cl C fp pn s₀ H₀) tg g) (hk : GKeep caps g) (hif : ∀ cl C fp pn s₀ H₀, PF (compCx X scope Nc cl C fp pn s₀ H₀) ifs ti) (he : ∀ cl C fp pn s₀ H₀, PE (compCx X scope Nc cl C fp pn s₀ H₀) elt te)
    (hN : X.N = N := by rfl) (hS : X.env.scope = fsc := by rfl) (hs : ∀ y, foldedSetIterable iter X.env y = pure y := by intro _; rfl) :
    PE X (.ListComp elt [⟨tg, iter, ifs, 0⟩] scope pos) (tCompG wi caps g ti te) := by
  constructor
  intro pins s σ H Q I h
  rw [eval_ListComp]
  refine comp_core (use := none) S hi hg hk hif he hN hS hs I h fun D C H6 s7 m I7 hn hf q => ⟨m, hn, fun h' hs' => ⟨.ref D, H6, ?_, rfl, q⟩⟩
  obtain ⟨f0, f1, f2, f3, f4, f5⟩ := hf
  exact I7.turned (t' := s7.toks) (fun b o hb e => (hs'.2 b hb).trans e) f0 f1 f3 f4 f5
theorem ps_setC {X : Cx} {elt iter tg : Expr} {g : TG} {ifs : List Expr} {scope : Scope} {cpos pos py : Pos} {N Nc : List Str} {fsc : Scope} {caps : List (Option Nat)} {wi : TI} {ti : TT} {te : TE} {y : Str} {i : Nat} (S : CompSc2 N fsc scope Nc caps)
    (hi : PI X tg iter wi) (hg : ∀ cl C fp pn s₀ H₀, PG (compCx X scope Nc cl C fp pn s₀ H₀) tg g) (hk : GKeep caps g) (hif : ∀ cl C fp pn s₀ H₀, PF (compCx X scope Nc cl C fp pn s₀ H₀) ifs ti) (he : ∀ cl C fp pn s₀ H₀, PE (compCx X scope Nc cl C fp pn s₀ H₀) elt te)
    (hN : X.N = N) (hS : X.env.scope = fsc) (hs : ∀ y, foldedSetIterable iter X.env y = pure y) (nd : N.Nodup) (hy : N[i]? = some y) (hl : fsc.names.lookup y = some .local) (hw : swapsWith (.ListComp elt [⟨tg, iter, ifs, 0⟩] scope cpos) (some (.Name y py)) pos.line X.env = pure true) :
    PS X (.Assign [.Name y py] (.ListComp elt [⟨tg, iter, ifs, 0⟩] scope cpos) pos) (tAsg (tCompG wi caps g ti te) (gName i)) := by
  constructor
  intro pins s σ H D I h
  rw [exec_Assign_Name_used _ _ _ _ hw]
  subst hN hS
  refine wpAny_bind (wpAny_standAt (wpAny_bind ?_))
  refine wpAny_bind ?_
  show wpAny _ _ (comprehension (.ListComp elt [⟨tg, iter, ifs, 0⟩] scope cpos) scope X.env _ (newList []) false (eval iter X.env) (some (assign (.Name y py) X.env))) _ _ _
  refine comp_core (use := some (assign (.Name y py) X.env)) (Qv := fun _ s' => wpAny (model X.prog X.w) X.A (pure ()) (fun _ s2 => wpAny (model X.prog X.w) X.A (pure Flow.next) (SP X pins D) X.xe s2) X.xe s') S hi hg hk hif he rfl rfl hs I h fun D' C H6 s7 m I7 hn hf q => ?_
  obtain ⟨f0, f1, f2, f3, f4, f5⟩ := hf
  show wpAny _ _ (assign (.Name y py) X.env (.ref D')) _ _ _
  refine wpAny_assign_Name (store_ok2 I7 nd hy (.inl hl) (v := .ref D') rfl (fun s8 I8 ⟨a, sb, ha⟩ => ?_) (.inr hl))
  have hCa : C ≠ a := by
    rcases ha with e | e
    · rw [e]; exact f1
    · exact fun z => f4 y a e z.symm
  refine ⟨m, hn.sameBut sb hCa, fun h' hs' => wpAny_pure (wpAny_pure ⟨_, H6, ?_, q⟩)⟩
  exact I8.turned (t' := s8.toks) (fun b o hb e => (hs'.2 b hb).trans e) f0 f1 f3 f4 f5
theorem pg_comp {X : Cx} {scope : Scope} {Nc : List Str} {cl : List (Str × Addr)} {C : Addr} {fp : List Addr} {pn : List (Addr × Obj)} {s₀ : Shared} {H₀ : Hp} {x : Str} {j : Nat} {p : Pos} (nd : Nc.Nodup) (hj : Nc[j]? = some x) (hl : scope.names.lookup x = some .local) :
    PG (compCx X scope Nc cl C fp pn s₀ H₀) (.Name x p) (gName j) :=
  pg_name (X := compCx X scope Nc cl C fp pn s₀ H₀) nd hj (.inl (lookup_relabel_local hl)) (.inr (lookup_relabel_local hl))
theorem gk_name {caps : List (Option Nat)} {j : Nat} (h0 : caps[j]? = some none) : GKeep caps (gName j) := by
  intro x σ H Q q
  refine ⟨q, by rw [List.length_set], fun i k hi => ?_⟩
  have n0 : i ≠ j := fun z => by rw [z, h0] at hi; cases hi
  rw [List.getElem?_set_ne (Ne.symm n0)]
theorem compG_of {J : It} {caps : List (Option Nat)} {j : Nat} {ti : TT} {te : TE} {σ : St} {H1 : Hp} {D : Addr} {Q : VK} (h : CompW J caps j ti te σ H1 D Q) : CompG J caps (gName j) ti te σ H1 D Q := h
section
variable {X : Cx} {N : List Str} {sc : Scope} {pos : Pos}
theorem cmp {elt iter : Expr} {x : Str} {px : Pos} {ifs : List Expr} {scope : Scope} {Nc Lc : List Str} {caps : List (Option Nat)} {j : Nat} {wi : TI} {ti : TT} {te : TE} (S : CompSc N sc scope Nc caps j x)
    (hi : PI X (.Name x px) iter wi) (hif : ∀ cl C fp pn s₀ H₀, Vs Nc (relabel scope X.env) → Gs Lc (relabel scope X.env) → PF (compCx X scope Nc cl C fp pn s₀ H₀) ifs ti) (he : ∀ cl C fp pn s₀ H₀, Vs Nc (relabel scope X.env) → Gs Lc (relabel scope X.env) → PE (compCx X scope Nc cl C fp pn s₀ H₀) elt te)
    (hV : Nc.all (visOk scope) = true := by decide +kernel) (hG : Lc.all (gloOk scope) = true := by decide +kernel) (hN : X.N = N := by rfl) (hS : X.env.scope = sc := by rfl) (hs : ∀ y, foldedSetIterable iter X.env y = pure y := by intro _; rfl) :
    PE X (.ListComp elt [⟨.Name x px, iter, ifs, 0⟩] scope pos) (tComp wi caps j ti te) :=
  pe_compG (g := gName j) (caps := caps) ⟨S.kind, S.nocell, S.loc, S.fre, S.len, S.nd, S.cap⟩ hi (fun cl C fp pn s₀ H₀ => pg_comp S.nd S.var S.own) (gk_name S.slot) (fun cl C fp pn s₀ H₀ => hif cl C fp pn s₀ H₀ ((Vs.of hV).re _) ((Gs.of hG).re _)) (fun cl C fp pn s₀ H₀ => he cl C fp pn s₀ H₀ ((Vs.of hV).re _) ((Gs.of hG).re _)) hN hS hs
theorem setC {elt iter : Expr} {x y : Str} {px py cpos : Pos} {ifs : List Expr} {scope : Scope} {Nc Lc : List Str} {caps : List (Option Nat)} {wi : TI} {ti : TT} {te : TE} {i : Nat} (Ld : Ls N sc) (S : CompSc2 N sc scope Nc caps)
    (hi : PI X (.Name x px) iter wi) (hif : ∀ cl C fp pn s₀ H₀, Vs Nc (relabel scope X.env) → Gs Lc (relabel scope X.env) → PF (compCx X scope Nc cl C fp pn s₀ H₀) ifs ti) (he : ∀ cl C fp pn s₀ H₀, Vs Nc (relabel scope X.env) → Gs Lc (relabel scope X.env) → PE (compCx X scope Nc cl C fp pn s₀ H₀) elt te)
    (h0 : caps[0]? = some none := by rfl) (hx : Nc[0]? = some x := by rfl) (lx : scope.names.lookup x = some .local := by decide +kernel) (hy : N[i]? = some y := by rfl) (ly : sc.names.lookup y = some .local := by decide +kernel)
    (hV : Nc.all (visOk scope) = true := by decide +kernel) (hG : Lc.all (gloOk scope) = true := by decide +kernel) (hN : X.N = N := by rfl) (hS : X.env.scope = sc := by rfl) (hs : ∀ y, foldedSetIterable iter X.env y = pure y := by intro _; rfl)
    (hw : swapsWith (.ListComp elt [⟨.Name x px, iter, ifs, 0⟩] scope cpos) (some (.Name y py)) pos.line X.env = pure true := by rfl) :
    PS X (.Assign [.Name y py] (.ListComp elt [⟨.Name x px, iter, ifs, 0⟩] scope cpos) pos) (tAsg (tCompG wi caps (gName 0) ti te) (gName i)) :=
  ps_setC S hi (fun cl C fp pn s₀ H₀ => pg_comp S.nd hx lx) (gk_name h0) (fun cl C fp pn s₀ H₀ => hif cl C fp pn s₀ H₀ ((Vs.of hV).re _) ((Gs.of hG).re _)) (fun cl C fp pn s₀ H₀ => he cl C fp pn s₀ H₀ ((Vs.of hV).re _) ((Gs.of hG).re _)) hN hS hs Ld.nd hy ly hw
end
end L2
set_option Elab.async false
set_option linter.all false
set_option maxRecDepth 100000
namespace L2
open PySem PySem.Spec PyProof.Rows
section
variable {prog : Program} {w : World} {A : Around} {E : Value → Shared → Prop} {s : Shared} {d : Addr} {kvs : List (Key × Value)} {ep : Nat}
end
section
variable {X : Cx}
end
end L2
set_option Elab.async false
set_option linter.all false
set_option maxRecDepth 100000
namespace L2
open PySem PySem.Spec PyProof.Rows
section
variable {X : Cx}
noncomputable def rEqS (K : PySem.W.Frag) : R2 := fun x y H Q => ∃ z, y = .str z ∧ ((∃ t, x = .str t ∧ Q (.bl (decide (V.str t = .str z))) H) ∨ ∃ p xs, x = .ref p ∧ SqL K H p xs ∧ Q (.bl false) H)
end
end L2
set_option Elab.async false
set_option linter.all false
set_option maxRecDepth 100000
namespace L2
open PySem PySem.Spec PyProof.Rows
section
variable {X : Cx}
noncomputable def rCount : V → List V → Hp → VK → Prop := fun x vs H Q => ∃ l xs y, x = .ref l ∧ vs = [y] ∧ H l = some (.lst xs) ∧ xs.all flatV = true ∧ flatV y = true ∧ Q (.int (xs.countP fun z => eqV z y : Nat)) H
theorem ints_are {ns : List Int} : ∀ {us : List Value}, Vals (ns.map V.int) us → IntsAre us ns := by
  induction ns with
  | nil => intro us r; cases r; exact .nil
  | cons n ns ih =>
    intro us r
    cases r with
    | cons p r =>
      obtain ⟨t, rfl⟩ := p
      exact .cons n t (ih r)
theorem vals_of_ints {us : List Value} {ns : List Int} (h : IntsAre us ns) : Vals (ns.map V.int) us := by
  induction h with
  | nil => exact .nil
  | cons n t _ ih => exact .cons ⟨t, rfl⟩ ih
theorem call_sorted : CallR X (.builtin "sorted") (fun xs H Q => ∃ (p : Addr) (ns : List Int), xs = [.ref p] ∧ SqL X.K H p (ns.map V.int) ∧ ns.length < 64 ∧ ∀ l (ns' : List Int), H l = none → ns'.Perm ns → ns'.Pairwise (· ≤ ·) → Q (.ref l) (upd H l (.lst (ns'.map V.int)))) := by
  intro pins s σ H xs us Q I r h
  obtain ⟨p, ns, rfl, hq, h64, q⟩ := h
  obtain ⟨u, rfl, rx⟩ := vals1 r
  cases rx
  obtain ⟨its, rv, pl, hz⟩ := I.list hq
  have hl := rv.length
  rw [List.length_map] at hl
  refine sorted_ints pl.isList (ints_are rv) (by omega) fun out ns' hI hp hs => ?_
  obtain ⟨e, hg⟩ := sortedAll_at s.heap its out
  have hlen : ns'.length ≤ sizeLine := by rw [hp.length_eq]; have : 64 ≤ sizeLine := by decide
                                          omega
  refine ⟨.ref _, _, I.laid (t' := s.toks) (o := .lst (ns'.map V.int)) (fun b o q => sortedAll_old q) (Nat.le_succ _) ⟨by rw [List.length_map]; exact hlen, out.toList, e, vals_of_ints hI, hg⟩, rfl, q _ ns' (I.hok.fresh (Nat.le_succ _)) hp hs⟩
end
section
variable {X : Cx} {e st : Expr} {te : TE} {ts : TO} {p2 pos : Pos}
noncomputable def tRev (K : PySem.W.Frag) (te : TE) (ts : TO) : TE := fun σ H Q => te σ H fun x H1 => ts σ H1 fun y H2 => ∃ a xs, x = .ref a ∧ y = some (-1) ∧ SqL K H2 a xs ∧ ∀ p, H2 p = none → Q (.ref p) (upd H2 p (.lst xs.reverse))
end
structure OwnM (P : Program) (w : World) (K : PySem.W.Frag) (mg : Str → Option Value) (base : Heap) (c : Bool) (k : Nat) (C : Addr) (m : Str) (ps : List Str) (sp : Sp) : Prop where
  ex : ∃ f fd, FnOk P w K mg base (CX1 P w) c k f fd ps sp ∧ Binds K fd ps [] ∧ Meth K C m f
structure OwnC (P : Program) (w : World) (K : PySem.W.Frag) (mg : Str → Option Value) (base : Heap) (c : Bool) (k : Nat) (C : Addr) (ps : List Str) (sp : Sp) : Prop where
  ex : ∃ f fd, FnOk P w K mg base (CX1 P w) c k f fd ps sp ∧ Binds K fd ps [] ∧ Mk K C f
section
variable {X : Cx} {c : Bool} {k : Nat} {C : Addr} {m x : Str} {ps L : List Str} {sc : Scope} {sp : Sp} {E : XK} {apos p pos : Pos} {o e : Expr} {es : List Expr} {ta : TE} {t : TA}
end
end L2
set_option Elab.async false
set_option linter.all false
set_option maxRecDepth 100000
namespace L2
open PySem PySem.W PyProof.Rows
structure LtOk (lt : Nat → Nat → Bool) : Prop where
  irr : ∀ a, lt a a = false
  tr : ∀ a b c, lt b a = false → lt c b = false → lt c a = false
  asym : ∀ a b, lt a b = true → lt b a = false
noncomputable def ixA (p : Array Nat) (k : Nat) : Nat := p.getD k 0
noncomputable def Srt (lt : Nat → Nat → Bool) (p : Array Nat) (m : Nat) : Prop := ∀ i j, i ≤ j → j < m → lt (ixA p j) (ixA p i) = false
noncomputable def NonI (lt : Nat → Nat → Bool) (p : Array Nat) (m : Nat) : Prop := ∀ i j, i ≤ j → j < m → lt (ixA p i) (ixA p j) = false
noncomputable def EqR (lt : Nat → Nat → Bool) (p : Array Nat) (a m : Nat) : Prop := ∀ i j, a ≤ i → i < m → a ≤ j → j < m → lt (ixA p i) (ixA p j) = false
noncomputable def PmR (n : Nat) (p : Array Nat) : Prop := p.Perm (List.range n).toArray
section
variable {lt : Nat → Nat → Bool} (O : LtOk lt) {n : Nat} {cmp : Nat → Nat → (Bool → Shared → Prop) → Shared → Prop} {s : Shared} (hc : ∀ i j C, i < n → j < n → C (lt i j) s → cmp i j C s)
include O hc
end
end L2
set_option Elab.async false
set_option linter.all false
set_option maxRecDepth 100000
namespace L2
open PySem PySem.W PyProof.Rows
section
variable {prog : Program} {w : World} {A : Around} {E : Value → Shared → Prop} {s : Shared}
noncomputable def outT (vs : List Value) (p : Array Nat) : Array Value := List.toArray (p.toList.map fun i => vs.getD i Value.none)
noncomputable def Asks (prog : Program) (w : World) (A : Around) (s : Shared) (a : Addr) (vs : List Value) (lt : Nat → Nat → Bool) : Prop :=
  ∀ g : Heap, (∀ b o, b ≠ a → s.heap.get? b = some o → g.get? b = some o) → 2 ≤ vs.length → ∃ κ, (∀ (E : Value → Shared → Prop) (R : SortKind → Shared → Prop), R κ { s with heap := g } → wpAny (model prog w) A (keyKind' vs.toArray) R E { s with heap := g }) ∧
    ∀ i j C, i < vs.length → j < vs.length → C (lt i j) { s with heap := g } → kas_ask prog w A κ vs i j C { s with heap := g }
end
noncomputable def blex (x y : Int × Int) : Bool := if x.1 = y.1 then (if x.2 = y.2 then false else decide (x.2 < y.2)) else decide (x.1 < y.1)
noncomputable def lexle (x y : Int × Int) : Prop := x.1 < y.1 ∨ (x.1 = y.1 ∧ x.2 ≤ y.2)
noncomputable def prAt (H : Hp) (r : Addr) : Int × Int := match H r with
  | some (.tup [.int a, .int b]) => (a, b)
  | _ => (0, 0)
noncomputable def Pr2 (g : Heap) (r : Addr) (q : Int × Int) : Prop := ∃ o n t t', g.get? r = some o ∧ o.cls = .type "tuple" ∧ o.data = .seq #[.int q.1 t, .int q.2 t'] n
section
variable {prog : Program} {w : World} {A : Around} {s : Shared}
end
theorem comp_listG {K : PySem.W.Frag} {a : Addr} {xs : List V} {caps : List (Option Nat)} {j : Nat} {te : TE} {σ : St} {H1 : Hp} {D : Addr} {Q : VK} (R : Nat → V → Hp → Prop) (ha : SqL K H1 a xs) (hD : H1 D = none) (hn : xs.length ≤ 100000)
    (mono : ∀ i v H H', Same H H' → R i v H → R i v H') (mono2 : ∀ i v H ys o, H D = some (.lst ys) → R i v H → R i v (upd H D o))
    (step : ∀ i x H2 Q', xs[i]? = some x → Same H1 H2 → (∀ v H3, Same H2 H3 → R i v H3 → Q' v H3) → te ((capOf caps σ).set j (some x)) H2 Q')
    (fin : ∀ H2 ys, Same H1 H2 → H2 D = some (.lst ys) → ys.length = xs.length → (∀ k v, ys[k]? = some v → R k v H2) → Q (.ref D) H2) : CompW (Itl K a) caps j tYes te σ H1 D Q := by
  have hz : 100000 < sizeLine := by decide
  refine ⟨fun i m H2 => m = xs.length - i ∧ i ≤ xs.length ∧ Same H1 H2 ∧ ∃ ys, H2 D = some (.lst ys) ∧ ys.length = i ∧ ∀ k v, ys[k]? = some v → R k v H2, ⟨xs.length, by simp, Nat.zero_le _, Same.new hD _, [], upd_same, rfl, fun k v h => by simp at h⟩, ?_⟩
  rintro i m H2 ⟨rfl, hi, sm, ys, hl, hy, hR⟩
  by_cases hlt : i < xs.length
  · refine .inr ⟨⟨xs, xs[i], sm.seq ha, by simp [hlt]⟩, fun x H3 y => ?_⟩
    obtain ⟨rfl, y⟩ := y
    have hx := y xs (sm.seq ha)
    unfold tYes
    dsimp only
    rw [if_pos rfl]
    refine step i x H3 _ hx sm fun v H4 s4 r4 => ?_
    have hl4 := s4 _ _ hl
    refine ⟨ys, hl4, by omega, xs.length - (i + 1), by omega, rfl, by omega, (sm.trans s4).upd hD hl4 _, ys ++ [v], upd_same, by rw [List.length_append, hy]; rfl, fun k u hk => ?_⟩
    by_cases ck : k < ys.length
    · rw [List.getElem?_append_left ck] at hk
      exact mono2 _ _ _ ys _ hl4 (mono _ _ _ _ s4 (hR k u hk))
    · have : k = ys.length := by
        have := (List.getElem?_eq_some_iff.mp hk).1
        rw [List.length_append] at this
        simp only [List.length_cons, List.length_nil] at this
        omega
      subst this
      rw [List.getElem?_append_right (Nat.le_refl _), Nat.sub_self] at hk
      cases hk
      rw [hy]
      exact mono2 _ _ _ ys _ hl4 r4
  · have e : i = xs.length := by omega
    subst e
    exact .inl ⟨⟨xs, sm.seq ha, Nat.le_refl _⟩, fin H2 ys sm hl hy hR⟩
end L2
set_option Elab.async false
set_option linter.all false
set_option maxRecDepth 100000
namespace L2
open PySem PySem.W PyProof.Rows
noncomputable def Alike (K : PySem.W.Frag) (H : Hp) : Nat → V → V → Prop
  | 0, x, y => x = y ∧ flatV x = true
  | n + 1, x, y => (x = y ∧ flatV x = true) ∨ ∃ p q xs ys, x = .ref p ∧ y = .ref q ∧ ((SqL K H p xs ∧ SqL K H q ys) ∨ (SqT K H p xs ∧ SqT K H q ys)) ∧ xs.length = ys.length ∧ ∀ (j : Nat) (a b : V), xs[j]? = some a → ys[j]? = some b → Alike K H n a b
theorem eqV_refl {x : V} (h : flatV x = true) : eqV x x = true := by
  cases x with
  | bl b => cases b <;> rfl
  | int i => exact beq_self_eq_true i
  | str s => exact beq_self_eq_true s
  | non => rfl
  | _ => exact absurd h (by simp [flatV])
theorem all_true (n : Nat) : (List.range n).all (fun _ => true) = true := List.all_eq_true.mpr fun _ _ => rfl
theorem vals_at {xs : List V} {us : List Value} (r : Vals xs us) {j : Nat} {u : Value} (h : us[j]? = some u) : ∃ x, xs[j]? = some x ∧ RelV x u := by
  have hl := r.length
  have hi : j < xs.length := by rw [hl]; exact (List.getElem?_eq_some_iff.mp h).1
  obtain ⟨u', h', r'⟩ := r.get (i := j) (x := xs[j]) (by simp [hi])
  rw [h] at h'; cases h'
  exact ⟨_, by simp [hi], r'⟩
section
variable {X : Cx}
theorem alike_at {pins : List (Addr × Obj)} {s : Shared} {σ : St} {H : Hp} (I : Inv X pins σ H s) : ∀ (n : Nat) (A : Around) (x y : V) (u v : Value), A.units + 8 * n < cLine → RelV x u → RelV y v → Alike X.K H n x y → SeqAt.EqAt A s u v true := by
  intro n
  induction n with
  | zero =>
    rintro A x y u v hu rx ry ⟨rfl, f⟩
    have := eqAt_V (A := A) (s := s) rx ry f f
    rw [eqV_refl f] at this
    exact this
  | succ n ih =>
    rintro A x y u v hu rx ry (⟨rfl, f⟩ | ⟨p, q, xs, ys, rfl, rfl, hl, hlen, hi⟩)
    · have := eqAt_V (A := A) (s := s) rx ry f f
      rw [eqV_refl f] at this
      exact this
    cases rx
    cases ry
    by_cases hne : p = q
    · subst hne; exact SeqAt.EqAt.same _
    refine SeqAt.EqAt.of_refs hne ?_
    rcases hl with ⟨hx, hy⟩ | ⟨hx, hy⟩
    · obtain ⟨us, r, pl, _⟩ := I.list hx
      obtain ⟨ws, r', pl', _⟩ := I.list hy
      have l1 := r.length
      have l2 := r'.length
      have := SeqAt.RcAt.lists (A := A) (e := fun _ => true) pl.isList pl'.isList (by simp [← l1, ← l2, hlen]) (by omega) (fun j h1 h2 => by
        obtain ⟨a, e1, r1⟩ := vals_at r (j := j) (u := us.toArray[j]) (by rw [List.getElem_toArray]; exact List.getElem?_eq_getElem _)
        obtain ⟨b, e2, r2⟩ := vals_at r' (j := j) (u := ws.toArray[j]) (by rw [List.getElem_toArray]; exact List.getElem?_eq_getElem _)
        exact ih A.in1 a b _ _ (by have : A.in1.units = A.units + 1 := rfl; omega) r1 r2 (hi j a b e1 e2))
      rw [all_true] at this
      exact this
    · obtain ⟨us, r, pl, _⟩ := I.tuple hx
      obtain ⟨ws, r', pl', _⟩ := I.tuple hy
      have l1 := r.length
      have l2 := r'.length
      have := SeqAt.RcAt.tuples (A := A) (e := fun _ => true) (show s.heap.IsTuple p us.toArray from pl) (show s.heap.IsTuple q ws.toArray from pl') (by omega) (fun j h1 h2 => by
        obtain ⟨a, e1, r1⟩ := vals_at r (j := j) (u := us.toArray[j]) (by rw [List.getElem_toArray]; exact List.getElem?_eq_getElem _)
        obtain ⟨b, e2, r2⟩ := vals_at r' (j := j) (u := ws.toArray[j]) (by rw [List.getElem_toArray]; exact List.getElem?_eq_getElem _)
        exact ih A.in1 a b _ _ (by have : A.in1.units = A.units + 1 := rfl; omega) r1 r2 (hi j a b e1 e2))
      rw [all_true, List.size_toArray, List.size_toArray, ← l1, ← l2, hlen, beq_self_eq_true] at this
      exact this
noncomputable def rNeA (K : PySem.W.Frag) : R2 := fun x y H Q => ∃ p q xs ys, x = .ref p ∧ y = .ref q ∧ ((SqL K H p xs ∧ SqL K H q ys) ∨ (SqT K H p xs ∧ SqT K H q ys)) ∧ xs.length = ys.length ∧ (∀ (j : Nat) (a b : V), xs[j]? = some a → ys[j]? = some b → Alike K H 2 a b) ∧ Q (.bl false) H
theorem op_neA (hu : X.A.units + 64 < cLine) : OpR X (compareOp .NotEq) (rNeA X.K) := by
  intro pins s σ H x y v u Q I rx ry h
  obtain ⟨p, q, xs, ys, rfl, rfl, hl, hlen, hi, k⟩ := h
  cases rx
  cases ry
  rcases hl with ⟨hx, hy⟩ | ⟨hx, hy⟩
  · obtain ⟨us, r, pl, _⟩ := I.list hx
    obtain ⟨ws, r', pl', _⟩ := I.list hy
    have l1 := r.length
    have l2 := r'.length
    refine SeqAt.RcNeAt.lists (e := fun _ => true) pl.isList pl'.isList (by simp [← l1, ← l2, hlen]) (by omega) (fun j h1 h2 => ?_) _ _ _ _ ⟨.bl _, H, I, rfl, ?_⟩
    · obtain ⟨a, e1, r1⟩ := vals_at r (j := j) (u := us.toArray[j]) (by rw [List.getElem_toArray]; exact List.getElem?_eq_getElem _)
      obtain ⟨b, e2, r2⟩ := vals_at r' (j := j) (u := ws.toArray[j]) (by rw [List.getElem_toArray]; exact List.getElem?_eq_getElem _)
      exact alike_at I 2 X.A.in1 a b _ _ (by have : X.A.in1.units = X.A.units + 1 := rfl; omega) r1 r2 (hi j a b e1 e2)
    · rw [all_true]; exact k
  · obtain ⟨us, r, pl, _⟩ := I.tuple hx
    obtain ⟨ws, r', pl', _⟩ := I.tuple hy
    have l1 := r.length
    have l2 := r'.length
    refine SeqAt.RcNeAt.tuples (e := fun _ => true) (show s.heap.IsTuple p us.toArray from pl) (show s.heap.IsTuple q ws.toArray from pl') (by omega) (fun j h1 h2 => ?_) _ _ _ _ ⟨.bl _, H, I, rfl, ?_⟩
    · obtain ⟨a, e1, r1⟩ := vals_at r (j := j) (u := us.toArray[j]) (by rw [List.getElem_toArray]; exact List.getElem?_eq_getElem _)
      obtain ⟨b, e2, r2⟩ := vals_at r' (j := j) (u := ws.toArray[j]) (by rw [List.getElem_toArray]; exact List.getElem?_eq_getElem _)
      exact alike_at I 2 X.A.in1 a b _ _ (by have : X.A.in1.units = X.A.units + 1 := rfl; omega) r1 r2 (hi j a b e1 e2)
    · rw [all_true, List.size_toArray, List.size_toArray, ← l1, ← l2, hlen, beq_self_eq_true]; exact k
end
theorem comp_rangeI {lo : Int} {n : Nat} {caps : List (Option Nat)} {j : Nat} {te : TE} {σ : St} {H1 : Hp} {D : Addr} {Q : VK} (R : List V → Hp → Prop) (hD : H1 D = none) (hn : n ≤ 100000)
    (h0 : R [] (upd H1 D (.lst []))) (mono : ∀ ys H zs o, H D = some (.lst zs) → R ys H → R ys (upd H D o))
    (step : ∀ (i : Nat) ys H2 Q', i < n → Same H1 H2 → H2 D = some (.lst ys) → ys.length = i → R ys H2 → (∀ v H3, Same H2 H3 → R (ys ++ [v]) H3 → Q' v H3) → te ((capOf caps σ).set j (some (.int (lo + i)))) H2 Q')
    (fin : ∀ H2 ys, Same H1 H2 → H2 D = some (.lst ys) → ys.length = n → R ys H2 → Q (.ref D) H2) : CompW (Itr lo n) caps j tYes te σ H1 D Q := by
  refine ⟨fun i m H2 => m = n - i ∧ i ≤ n ∧ Same H1 H2 ∧ ∃ ys, H2 D = some (.lst ys) ∧ ys.length = i ∧ R ys H2, ⟨n, by simp, Nat.zero_le _, Same.new hD _, [], upd_same, rfl, h0⟩, ?_⟩
  rintro i m H2 ⟨rfl, hi, sm, ys, hys, hl, hR⟩
  by_cases hlt : i < n
  · refine .inr ⟨hlt, fun x H3 hx => ?_⟩
    obtain ⟨rfl, rfl⟩ := hx
    unfold tYes
    dsimp only
    rw [if_pos rfl]
    refine step i ys _ _ hlt sm hys hl hR fun v H3 s3 rv => ⟨ys, s3 _ _ hys, ?_, n - (i + 1), by omega, rfl, hlt, (sm.trans s3).upd hD (s3 _ _ hys) _, ys ++ [v], upd_same, by simp [hl], mono _ _ _ _ (s3 _ _ hys) rv⟩
    rw [hl]
    exact Nat.lt_of_lt_of_le hlt (Nat.le_trans hn (by decide))
  · have e : i = n := by omega
    subst e
    exact .inl ⟨Nat.le_refl _, fin H2 ys sm hys hl hR⟩
end L2
set_option Elab.async false
set_option linter.all false
set_option maxRecDepth 100000
namespace L2
open PySem PySem.Spec PyProof.Rows
structure CompScC (N : List Str) (fsc : Scope) (scope : Scope) (Nc : List Str) (caps : List (Option Nat)) (x : Str) : Prop where
  kind : scope.kind = .function
  one : (scope.names.filter fun y => y.2 == NameKind.cell) = [(x, NameKind.cell)]
  loc : ∀ y ∈ scope.names, y.2 = .local → scope.names.lookup y.1 = some .local
  fre : ∀ y ∈ scope.names, y.2 = .free → fsc.names.lookup y.1 = some .cell ∨ fsc.names.lookup y.1 = some .free
  len : caps.length = Nc.length
  nd : Nc.Nodup
  cap : (Nc.zip caps).all (capOk N scope) = true
  own : scope.names.lookup x = some .cell
noncomputable abbrev compCxC (X : Cx) (scope : Scope) (Nc : List Str) (cl : List (Str × Addr)) (C : Addr) (fp : List Addr) (pn : List (Addr × Obj)) (s₀ : Shared) (H₀ : Hp) (x : Str) : Cx :=
  { compCx X scope Nc cl C fp pn s₀ H₀ with fn := fun y => decide (y = x) }
section
variable {X : Cx} {N : List Str} {sc : Scope} {pos : Pos}
end
end L2
set_option Elab.async false
set_option linter.all false
set_option maxRecDepth 100000
namespace L2
open PySem PySem.Spec PyProof.Rows
section
variable {X : Cx}
theorem call_maxL (hc : X.calm = true) : CallR X (.builtin "max") (fun xs H Q => ∃ (p : Addr) (ns : List Int), xs = [.ref p] ∧ SqL X.K H p (ns.map V.int) ∧ ns ≠ [] ∧ ∀ m, m ∈ ns → (∀ n ∈ ns, n ≤ m) → Q (.int m) H) := by
  intro pins s σ H xs us Q I r h
  obtain ⟨p, ns, rfl, hq, hne, q⟩ := h
  obtain ⟨u, rfl, rx⟩ := vals1 r
  cases rx
  obtain ⟨its, rv, pl, hz⟩ := I.list hq
  have hl := rv.length
  rw [List.length_map] at hl
  have hpos : 0 < ns.length := List.length_pos_iff.mpr hne
  have hpI : p ≠ s.heap.objs.size := fun z => by
    obtain ⟨o, ho, _⟩ := pl.isList
    exact absurd (Heap.lt_size ho) (by rw [z]; exact Nat.lt_irrefl _)
  have itm : ∀ (i : Nat) (v : Value), its.toArray[i]? = some v → i < ns.length ∧ ∃ t, v = .int (ns.getD i 0) t := fun i v hv => by
    have hv' : its[i]? = some v := by simpa using hv
    have hi := (List.getElem?_eq_some_iff.mp hv').1
    exact ⟨by omega, ints_at rv i v hv'⟩
  refine call_max_walk (wpAny_pyIter_list pl.isList ?_)
  refine ⟨s.heap.objs.size, _, _, its.toArray.size, _, _, fun i j => decide (ns.getD i 0 > ns.getD j 0), rfl, Walks.list (A := X.A.in1) (I.ok.hd hc) s.heap.objs.size p hpI its.toArray, ⟨⟨_, Heap.get?_push_size _ rfl, rfl, rfl⟩, ?_⟩, fun b hb => ?_, by rw [List.size_toArray]; omega, CmpOf.ints_gt (fun i => ns.getD i 0) fun i v hv => (itm i v hv).2, fun v h' tk hv kk => ?_⟩
  · obtain ⟨o, ho, r'⟩ := pl.isList
    exact ⟨o, Heap.get?_push_of_some _ ho, r'⟩
  · show b < (s.heap.push _).objs.size
    rw [Heap.size_push]
    rcases List.mem_cons.mp hb with e | e
    · rw [e]; exact Nat.lt_succ_self _
    · rw [List.mem_singleton.mp e]
      obtain ⟨o, ho, _⟩ := pl.isList
      exact Nat.lt_succ_of_lt (Heap.lt_size ho)
  · obtain ⟨h1, h2⟩ := argBest_gt (fun i => ns.getD i 0) (its.toArray.size - 1)
    obtain ⟨h3, t, e3⟩ := itm _ _ hv
    rw [List.size_toArray] at h1 h2 h3
    refine ⟨.int _, H, I.kept (t' := tk) fun b o e => kk b o (fun hm => ?_) (Heap.get?_push_of_some _ e), ⟨t, e3⟩, q _ ?_ fun n hn => ?_⟩
    · exact absurd (Heap.lt_size e) (by rw [List.mem_singleton.mp hm]; exact Nat.lt_irrefl _)
    · rw [List.size_toArray, List.getD_eq_getElem?_getD, List.getElem?_eq_getElem h3, Option.getD_some]; exact List.getElem_mem h3
    · obtain ⟨i, hi, rfl⟩ := List.getElem_of_mem hn
      have := h2 i (by omega)
      rw [List.size_toArray]
      simpa [List.getD_eq_getElem?_getD, List.getElem?_eq_getElem hi] using this
end
end L2
set_option Elab.async false
set_option linter.all false
set_option maxRecDepth 100000
namespace L2
open PySem PySem.Spec PyProof.Rows
section
variable {prog : Program} {w : World} {A : Around} {E : Value → Shared → Prop} {s : Shared}
end
section
variable {X : Cx} {pos : Pos}
noncomputable def gTupL (K : PySem.W.Frag) (n : Nat) (t : TGs) : TG := fun v σ H Q => ∃ a xs, v = .ref a ∧ SqL K H a xs ∧ xs.length = n ∧ t xs σ H Q
noncomputable def rIsnotB : R2 := fun x y H Q => ∃ a b, x = .bl a ∧ y = .bl b ∧ Q (.bl (a != b)) H
noncomputable def rRemove : V → List V → Hp → VK → Prop := fun x vs H Q => ∃ (l : Addr) (ks : List Int) (k : Int), x = .ref l ∧ vs = [.int k] ∧ H l = some (.lst (ks.map V.int)) ∧ k ∈ ks ∧ Q .non (upd H l (.lst ((ks.erase k).map V.int)))
noncomputable def isK (k : Int) : Value → Bool
  | .int a _ => a == k
  | _ => false
variable {o e : Expr} {es : List Expr} {to : TE} {t : TA} {name : Str} {apos cpos : Pos} {T id : String} {r : V → List V → Hp → VK → Prop}
end
end L2
set_option Elab.async false
set_option linter.all false
set_option maxRecDepth 100000
set_option maxHeartbeats 1000000
namespace L2
open PySem PySem.Spec PyProof.Rows
section
variable {X : Cx} {c : Bool} {k : Nat} {f : Addr} {fd : FuncData} {ps : List Str} {sp : Sp}
theorem run_fn1 {pins : List (Addr × Obj)} {σ : St} {H : Hp} {s : Shared} {Q : VK} {us : List Value} {vs : List V} (F : FnOk X.prog X.w X.K X.mg X.base (CX1 X.prog X.w) c k f fd ps sp) (hca : c = true → X.calm = true) (hr : Room (k + 1) X.A) (hb : Binds X.K fd ps [])
    (I : Inv X pins σ H s) (r : Vals vs us) (h : sp vs H Q E0) : wpAny (model X.prog X.w) X.A.in1 (call (.ref f) us) (EP X pins σ Q) (fun _ _ => False) s := by
  have r2 : Vals (vs ++ []) (us ++ []) := r.append .nil
  have h2 : sp (vs ++ []) H Q E0 := by rw [List.append_nil]; exact h
  have hl : (us ++ []).length = ps.length := by rw [← r2.length]; exact F.len _ _ _ _ h2
  refine wpAny_call (codeAny_mono (F.run X.A.in1 X.stack s H ⟨us, []⟩ (us ++ []) (vs ++ []) Q E0 X.hx (fun z => I.ok.hd (hca z)) (I.ok.hnd.mono rfl) I.hxs hr.in1 I.env0.in1 (hb s us I.kIn hl) r2 h2) fun r s' hq => ?_)
  cases r with
  | error e => exact (E0.no hq).elim
  | ok fl =>
    cases fl with
    | ret u => exact I.after hq
    | next => exact False.elim hq
    | brk => exact False.elim hq
    | cont => exact False.elim hq
noncomputable def Best (kf : Nat → Int) (n i : Nat) : Prop := ∀ j, j < n → kf j ≤ kf i ∧ (j < i → kf j < kf i)
theorem max_loop {pins : List (Addr × Obj)} {σ : St} {H : Hp} {l It S : Addr} {xs : List V} {kf : Nat → Int} {R : Result → Shared → Prop} (F : FnOk X.prog X.w X.K X.mg X.base (CX1 X.prog X.w) c k f fd ps sp) (hca : c = true → X.calm = true) (hr : Room (k + 1) X.A) (hb : Binds X.K fd ps []) (hd : X.A.handled = none)
    (hl : SqL X.K H l xs) (hSI : S ≠ It) (hfS : FpOk X pins H S) (hfI : FpOk X pins H It)
    (turn : ∀ (i : Nat) (x : V), xs[i]? = some x → sp [x] H (fun v H' => v = .int (kf i) ∧ H' = H) E0)
    (hR : ∀ (i : Nat) (x : V) (u : Value) (s' : Shared), xs[i]? = some x → Best kf xs.length i → Inv X pins σ H s' → RelV x u → R (.ok (.ret u)) s') :
    ∀ (r j i : Nat) (s : Shared) (ub : Value) (xb : V) (tb : Tok) (ep : Nat), xs.length - (j + 1) = r → j + 1 ≤ xs.length → Inv X pins σ H s →
      s.heap.get? S = some (seqObj "list" #[ub, .int (kf i) tb] ep) → s.heap.IsListIter It l (j + 1) → xs[i]? = some xb → RelV xb ub → i ≤ j → (∀ j', j' ≤ j → kf j' ≤ kf i ∧ (j' < i → kf j' < kf i)) →
      codeAny (model X.prog X.w) X.A (.builtin "max.loop" ⟨[.ref It, .ref f, .ref S], []⟩) R s := by
  have hname : (toString "max" ++ toString ".loop" : String) = "max.loop" := by decide
  obtain ⟨f0, f1, f2, f3, f4, f5⟩ := id hfI
  obtain ⟨g0, g1, g2, g3, g4, g5⟩ := id hfS
  intro r
  induction r with
  | zero =>
    intro j i s ub xb tb ep hr0 hj I hS hit hxb rb hij hbest
    obtain ⟨its, rv, p, hz⟩ := I.list hl
    have hlen := rv.length
    refine codeAny_builtin PySem.F.entry_max_loop ?_
    rw [Around.under_plainId PySem.F.plain_max_loop _]
    show wpAny _ X.A.in1 (seqItems? (.ref S) >>= _) _ _ _
    refine wpAny_bind (wpAny_seqItems hS rfl ?_)
    show wpAny _ X.A.in1 (tryCatch (pyNext (.ref It)) _ >>= _) _ _ _
    refine wpAny_bind (wpAny_tryCatch (wpAny_pyNext_list_end (A := X.A.in1) hd hit p.isList (by simp; omega) fun h' he => ?_))
    have I1 : Inv X pins σ H { s with heap := h' } := I.turned (t' := s.toks) (fun b o hb e => he b o hb e) f0 f1 f3 f4 f5
    have hS' := he S _ hSI hS
    have s1 := Heap.SameBut.update h' S (Obj.mapSeq fun _ => (#[] : Array Value))
    show wpAny _ X.A.in1 (updateSeq S (fun _ => #[]) >>= _) _ _ _
    refine wpAny_bind ?_
    refine wpAny_updateSeq hS' rfl (wpAny_bind (wpAny_letGo (wpAny_pure ?_)))
    exact hR i xb ub _ hxb (fun j' hj' => hbest j' (by omega)) (I1.turned (t' := s.toks) (fun b o hb e => (s1.2 b hb).trans e) g0 g1 g3 g4 g5) rb
  | succ r ih =>
    intro j i s ub xb tb ep hr0 hj I hS hit hxb rb hij hbest
    obtain ⟨its, rv, p, hz⟩ := I.list hl
    have hlen := rv.length
    have hlt : j + 1 < xs.length := by omega
    obtain ⟨x, hx⟩ : ∃ x, xs[j + 1]? = some x := ⟨_, List.getElem?_eq_getElem hlt⟩
    obtain ⟨u, hu, ru⟩ := rv.get hx
    refine codeAny_builtin PySem.F.entry_max_loop ?_
    rw [Around.under_plainId PySem.F.plain_max_loop _]
    show wpAny _ X.A.in1 (seqItems? (.ref S) >>= _) _ _ _
    refine wpAny_bind (wpAny_seqItems hS rfl ?_)
    show wpAny _ X.A.in1 (tryCatch (pyNext (.ref It)) _ >>= _) _ _ _
    refine wpAny_bind (wpAny_tryCatch (wpAny_pyNext_list_item hit p.isList (x := u) (by simpa using hu) fun h' hit' sb => ?_))
    have I1 : Inv X pins σ H { s with heap := h' } := I.turned (t' := s.toks) (fun b o hb e => (sb.2 b hb).trans e) f0 f1 f3 f4 f5
    have hS1 : h'.get? S = some (seqObj "list" #[ub, .int (kf i) tb] ep) := (sb.2 S hSI).trans hS
    obtain ⟨oI, hoI, hoc, hod⟩ := id hit'
    have IP := I1.pinned (fp := [S, It]) (fun b hb => by
      simp only [List.mem_cons, List.not_mem_nil, or_false] at hb
      rcases hb with rfl | rfl
      · exact hfS
      · exact hfI) (fun b hb => by
      simp only [List.mem_cons, List.not_mem_nil, or_false] at hb
      rcases hb with rfl | rfl
      · exact ⟨_, hS1, fun v z => nomatch z⟩
      · exact ⟨oI, hoI, fun v z => by rw [hod] at z; cases z⟩)
    show wpAny _ X.A.in1 (tryCatch (holding [u] (call (.ref f) [u])) _ >>= _) _ _ _
    refine wpAny_bind (wpAny_tryCatch (wpAny_holding (wpAny_mono (run_fn1 F hca hr hb IP (.cons ru .nil) (turn (j + 1) x hx)) (fun y s2 he => ?_) fun _ _ hF => hF.elim)))
    obtain ⟨v, H', I2, rv2, hv, hH⟩ := he
    subst hv hH
    obtain ⟨t2, rfl⟩ := rv2
    have hS2 := (I2.pin (S, _) (List.mem_append_right _ (List.mem_append_right _ (mem_pinsAt (by simp) hS1)))).1
    have hI2 := (I2.pin (It, _) (List.mem_append_right _ (List.mem_append_right _ (mem_pinsAt (by simp) hoI)))).1
    have I3 := I2.unpinned
    have hit2 : s2.heap.IsListIter It l (j + 1 + 1) := ⟨oI, hI2, hoc, hod⟩
    show wpAny _ X.A.in1 (tryCatch (holding [u, .int (kf (j + 1)) t2] (richCompare .Gt (.int (kf (j + 1)) t2) (.int (kf i) tb) >>= _)) _ >>= _) _ _ _
    refine wpAny_bind (wpAny_tryCatch (wpAny_holding (wpAny_bind (CmpOf.ints_gt (prog := X.prog) (w := X.w) (A := X.A.in1) (P := fun i v => ∃ t, v = .int (kf i) t) kf (fun i v h => h) (j + 1) i _ _ _ _ _ ⟨t2, rfl⟩ ⟨tb, rfl⟩ ?_))))
    refine wpAny_bind (wpAny_holding (wpAny_truthy_bool ?_))
    refine wpAny_bind (wpAny_letGo (wpAny_pure ?_))
    by_cases hb' : kf (j + 1) > kf i
    · have s1 := Heap.SameBut.update s2.heap S (Obj.mapSeq fun _ => #[u, .int (kf (j + 1)) t2])
      obtain ⟨c2, hc2⟩ : ∃ c2, (s2.heap.update S (Obj.mapSeq fun _ => #[u, .int (kf (j + 1)) t2])).get? S = some (seqObj "list" #[u, .int (kf (j + 1)) t2] c2) := ⟨_, get?_update_seq hS2 fun _ => #[u, .int (kf (j + 1)) t2]⟩
      simp only [hb', decide_true, if_true]
      refine wpAny_bind ?_
      refine wpAny_updateSeq hS2 rfl (wpAny_bind (wpAny_letGo ?_))
      rw [hname]
      refine wpAny_pure ⟨plainId_quiet PySem.F.plain_max_loop _, ih (j + 1) (j + 1) _ u x t2 c2 (by omega) hlt (I3.turned (t' := s2.toks) (fun b o hb e => (s1.2 b hb).trans e) g0 g1 g3 g4 g5) hc2 ⟨oI, (s1.2 It hSI.symm).trans hI2, hoc, hod⟩ hx ru (Nat.le_refl _) fun j' hj' => ?_⟩
      by_cases e : j' = j + 1
      · subst e
        exact ⟨Int.le_refl _, fun z => absurd z (Nat.lt_irrefl _)⟩
      · have hb1 := (hbest j' (by omega)).1
        exact ⟨by omega, fun _ => by omega⟩
    · simp only [hb', decide_false, Bool.false_eq_true, if_false]
      refine wpAny_bind (wpAny_letGo ?_)
      rw [hname]
      refine wpAny_pure ⟨plainId_quiet PySem.F.plain_max_loop _, ih (j + 1) i s2 ub xb tb ep (by omega) hlt I3 hS2 hit2 hxb rb (by omega) fun j' hj' => ?_⟩
      by_cases e : j' = j + 1
      · subst e
        exact ⟨by omega, fun z => by omega⟩
      · exact hbest j' (by omega)
theorem call_maxK {pins : List (Addr × Obj)} {σ : St} {H : Hp} {s : Shared} {l : Addr} {xs : List V} {kf : Nat → Int} {Q : VK} (F : FnOk X.prog X.w X.K X.mg X.base (CX1 X.prog X.w) c k f fd ps sp) (hca : c = true → X.calm = true) (hr : Room (k + 1) X.A) (hb : Binds X.K fd ps []) (hd : X.A.handled = none)
    (I : Inv X pins σ H s) (hl : SqL X.K H l xs) (hne : 0 < xs.length)
    (turn : ∀ (i : Nat) (x : V), xs[i]? = some x → sp [x] H (fun v H' => v = .int (kf i) ∧ H' = H) E0)
    (hQ : ∀ (i : Nat) (x : V), xs[i]? = some x → Best kf xs.length i → Q x H) :
    wpAny (model X.prog X.w) X.A (call (.builtin "max") [.ref l] [(Str.ofString "key", .ref f)]) (EP X pins σ Q) X.xe s := by
  have hname : (toString "max" ++ toString ".loop" : String) = "max.loop" := by decide
  obtain ⟨its, rv, p, hz⟩ := I.list hl
  have hlen := rv.length
  refine kmk_tree PySem.F.kind_max PySem.F.plain_max PySem.F.entry_max (kmk_max_key _ _) ?_
  show wpAny _ X.A.in1 (Builtin.Builtins.bindParams "max" ["key", "default"] 0 ⟨[], [(Str.ofString "key", .ref f)]⟩ >>= _) _ _ s
  refine wpAny_bind (wpAny_of_eq (show Builtin.Builtins.bindParams "max" ["key", "default"] 0 ⟨[], [(Str.ofString "key", .ref f)]⟩ = pure [some (.ref f), none] from rfl) ?_)
  refine wpAny_bind (wpAny_pure ?_)
  refine wpAny_bind (wpAny_pyIter_list p.isList ?_)
  refine wpAny_bind (wpAny_newList ?_ (Nat.zero_le _))
  rw [hname]
  have hS : (s.heap.push { cls := .type "list_iterator", data := .fields #[.ref l, .int 0 0] }).objs.size = s.heap.objs.size + 1 := size_push' ..
  have hSI : (s.heap.push { cls := .type "list_iterator", data := .fields #[.ref l, .int 0 0] }).objs.size ≠ s.heap.objs.size := by rw [hS]; exact Nat.ne_of_gt (Nat.lt_succ_self _)
  have hfI : FpOk X pins H s.heap.objs.size := I.fpOk (Nat.le_refl _) (I.hok.fresh (Nat.le_refl _))
  have hfS : FpOk X pins H (s.heap.push { cls := .type "list_iterator", data := .fields #[.ref l, .int 0 0] }).objs.size := by rw [hS]; exact I.fpOk (Nat.le_succ _) (I.hok.fresh (Nat.le_succ _))
  have gI : ((s.heap.push { cls := .type "list_iterator", data := .fields #[.ref l, .int 0 0] }).push (seqObj "list" #[] 0)).get? s.heap.objs.size = some { cls := .type "list_iterator", data := .fields #[.ref l, .int 0 0] } :=
    Heap.get?_push_of_some _ (Heap.get?_push_size _ rfl)
  have gS : ((s.heap.push { cls := .type "list_iterator", data := .fields #[.ref l, .int 0 0] }).push (seqObj "list" #[] 0)).get? (s.heap.push { cls := .type "list_iterator", data := .fields #[.ref l, .int 0 0] }).objs.size = some (seqObj "list" #[] 0) := Heap.get?_push_size _ rfl
  have I0 : Inv X pins σ H { s with heap := (s.heap.push { cls := .type "list_iterator", data := .fields #[.ref l, .int 0 0] }).push (seqObj "list" #[] 0) } := I.kept (t' := s.toks) fun b o e => Heap.get?_push_of_some _ (Heap.get?_push_of_some _ e)
  refine wpAny_pure ⟨plainId_quiet PySem.F.plain_max_loop _, ?_⟩
  generalize (s.heap.push { cls := .type "list_iterator", data := .fields #[.ref l, .int 0 0] }).objs.size = S at hSI hfS gS ⊢
  generalize s.heap.objs.size = It at hSI hfI gI ⊢
  generalize (s.heap.push { cls := .type "list_iterator", data := .fields #[.ref l, .int 0 0] }).push (seqObj "list" #[] 0) = h0 at gI gS I0 ⊢
  obtain ⟨f0, f1, f2, f3, f4, f5⟩ := id hfI
  obtain ⟨g0, g1, g2, g3, g4, g5⟩ := id hfS
  obtain ⟨its0, rv0, p0, hz0⟩ := I0.list hl
  obtain ⟨x, hx⟩ : ∃ x, xs[0]? = some x := ⟨_, List.getElem?_eq_getElem hne⟩
  obtain ⟨u, hu, ru⟩ := rv0.get hx
  refine codeAny_builtin PySem.F.entry_max_loop ?_
  rw [Around.under_plainId PySem.F.plain_max_loop _]
  show wpAny _ X.A.in1 (seqItems? (.ref _) >>= _) _ _ _
  refine wpAny_bind (wpAny_seqItems gS rfl ?_)
  show wpAny _ X.A.in1 (tryCatch (pyNext (.ref It)) _ >>= _) _ _ _
  have hit0 : h0.IsListIter It l 0 := ⟨_, gI, rfl, rfl⟩
  refine wpAny_bind (wpAny_tryCatch (wpAny_pyNext_list_item (s := { s with heap := h0 }) hit0 p0.isList (x := u) (by simpa using hu) fun h' hit' sb => ?_))
  have I1 : Inv X pins σ H { s with heap := h' } := I0.turned (t' := s.toks) (fun b o hb e => (sb.2 b hb).trans e) f0 f1 f3 f4 f5
  have hS1 : h'.get? S = some (seqObj "list" #[] 0) := (sb.2 S hSI).trans gS
  obtain ⟨oI, hoI, hoc, hod⟩ := id hit'
  have IP := I1.pinned (fp := [S, It]) (fun b hb => by
    simp only [List.mem_cons, List.not_mem_nil, or_false] at hb
    rcases hb with rfl | rfl
    · exact hfS
    · exact hfI) (fun b hb => by
    simp only [List.mem_cons, List.not_mem_nil, or_false] at hb
    rcases hb with rfl | rfl
    · exact ⟨_, hS1, fun v z => nomatch z⟩
    · exact ⟨oI, hoI, fun v z => by rw [hod] at z; cases z⟩)
  show wpAny _ X.A.in1 (tryCatch (holding [u] (call (.ref f) [u])) _ >>= _) _ _ _
  refine wpAny_bind (wpAny_tryCatch (wpAny_holding (wpAny_mono (run_fn1 F hca hr hb IP (.cons ru .nil) (turn 0 x hx)) (fun y s2 he => ?_) fun _ _ hF => hF.elim)))
  obtain ⟨v, H', I2, rv2, hv, hH⟩ := he
  subst hv hH
  obtain ⟨t2, rfl⟩ := rv2
  have hS2 := (I2.pin (S, _) (List.mem_append_right _ (List.mem_append_right _ (mem_pinsAt (by simp) hS1)))).1
  have hI2 := (I2.pin (It, _) (List.mem_append_right _ (List.mem_append_right _ (mem_pinsAt (by simp) hoI)))).1
  have I3 := I2.unpinned
  have s1 := Heap.SameBut.update s2.heap S (Obj.mapSeq fun _ => #[u, .int (kf 0) t2])
  obtain ⟨c2, hc2⟩ : ∃ c2, (s2.heap.update S (Obj.mapSeq fun _ => #[u, .int (kf 0) t2])).get? S = some (seqObj "list" #[u, .int (kf 0) t2] c2) := ⟨_, get?_update_seq hS2 fun _ => #[u, .int (kf 0) t2]⟩
  show wpAny _ X.A.in1 (updateSeq S (fun _ => #[u, .int (kf 0) t2]) >>= _) _ _ _
  refine wpAny_bind ?_
  refine wpAny_updateSeq hS2 rfl ?_
  rw [hname]
  refine wpAny_pure ⟨plainId_quiet PySem.F.plain_max_loop _, max_loop F hca hr hb hd hl hSI hfS hfI turn (fun i x u s' h1 h2 h3 h4 => ⟨x, H', h3, h4, hQ i x h1 h2⟩) _ 0 0 _ u x t2 c2 rfl hne (I3.turned (t' := s2.toks) (fun b o hb e => (s1.2 b hb).trans e) g0 g1 g3 g4 g5) hc2 ⟨oI, (s1.2 It hSI.symm).trans hI2, hoc, hod⟩ hx ru (Nat.le_refl _) fun j' hj' => ?_⟩
  have e : j' = 0 := by omega
  subst e
  exact ⟨Int.le_refl _, fun z => absurd z (Nat.lt_irrefl _)⟩
noncomputable def tMxK (K : PySem.W.Frag) (sp : Sp) (te : TE) : TE := fun σ H Q => tCons te tNil σ H fun vs H1 => ∃ (l : Addr) (xs : List V) (kf : Nat → Int), vs = [.ref l] ∧ SqL K H1 l xs ∧ 0 < xs.length ∧ (∀ (i : Nat) (x : V), xs[i]? = some x → sp [x] H1 (fun v H' => v = .int (kf i) ∧ H' = H1) E0) ∧ ∀ (i : Nat) (x : V), xs[i]? = some x → Best kf xs.length i → Q x H1
variable {L : List Str} {sc : Scope} {x : Str} {p p2 kp pos : Pos} {e : Expr} {te : TE}
theorem mxK {i j : Nat} (G : Gs L sc) (hm : X.mg "max" = none) (O : Own X.prog X.w X.K X.mg X.base c k x ps sp) (hr : Room (k + 1) X.A) (he : PE X e te) (hL : L[i]? = some "max" := by rfl) (hL2 : L[j]? = some x := by rfl) (h2 : X.env.scope = sc := by rfl) (hc : X.calm = true := by rfl) (hs : starEach [e] X.env = (false, eval e X.env) :: starEach [] X.env := by rfl)
    (h1 : backTo pos (starEach [e] X.env) = (false, eval e X.env) :: backTo pos (starEach [] X.env) := by rfl) (h3 : (backTo pos (starEach [e] X.env)).any (·.1) = false := by rfl)
    (h4 : (backToKw pos (keywordEach [⟨some "key", .Name x p2, kp⟩] X.env)).all (·.1.isSome) = true := by rfl) (h5 : (backToKw pos (keywordEach [⟨some "key", .Name x p2, kp⟩] X.env)).any (·.1.isNone) = false := by rfl)
    (h6 : (backToKw pos (keywordEach [⟨some "key", .Name x p2, kp⟩] X.env)).filterMap (·.1) = [Str.ofString "key"] := by rfl) :
    PE X (.Call (.Name "max" p) [e] [⟨some "key", .Name x p2, kp⟩] pos) (tMxK X.K sp te) := by
  constructor
  intro pins s σ H Q I h
  obtain ⟨f, fd, F, hb, hk, hmf⟩ := O.ex
  refine wpAny_Call_Name_kw (ld_blt I (glX G hL h2) hm bt_max ?_ (G.nn i _ hL) (G.dbg i _ hL))
  have ha : PA X [e] (tCons te tNil) := pa_cons he pa_nil hs
  refine callWith_kw (thn (ha pos pins s σ H _ I h) fun us s1 ⟨vs, H1, I1, r1, q1⟩ => ?_) h1 h3 h4 h5
  refine kws_cons (ld_glob I1 (glX G hL2 h2) hmf (kws_nil ?_) (G.dbg j _ hL2))
  rw [h6]
  obtain ⟨l, xs, kf, rfl, hl, hne, turn, hq⟩ := q1
  obtain ⟨u, rfl, rx⟩ := vals1 r1
  cases rx
  exact call_maxK F (fun _ => hc) hr hb (I1.ok.hd hc) I1 hl hne turn hq
end
end L2
set_option Elab.async false
set_option linter.all false
set_option maxRecDepth 100000
set_option maxHeartbeats 1000000
namespace L2
open PySem PySem.Spec PyProof.Rows
section
variable {prog : Program} {w : World} {A : Around} {E : Value → Shared → Prop} {s : Shared} {a₀ : Array Keyed}
theorem count_rising {st : SortSt} {Q : Option Nat → SortSt → Prop} (h0 : IntKeys a₀) (h1 : 1 ≤ a₀.size) (hB : SBase a₀ st) (hs : SortedTo (arrOf st) a₀.size) (h : Q (some a₀.size) st) : wpS (model prog w) A E s (countRun' 0 a₀.size) Q st := by
  rw [countRun0_eq]
  refine wpS_bind (wpS_ascLoop h0 (Nat.le_refl _) (Nat.le_refl 1) h1 hB (fun i j hij hj => hs i j hij (by omega)) fun n hn1 hn2 hsn hor => ?_)
  dsimp only
  have hnn : n = a₀.size := by
    rcases hor with z | z
    · exact z
    · by_cases c : n = a₀.size
      · exact c
      · have := hs (n - 1) n (by omega) (by omega)
        omega
  rw [if_pos (by simpa using hnn), hnn]
  exact wpS_pure h
theorem runs_rising {st : SortSt} {Q : Unit → SortSt → Prop} (h0 : IntKeys a₀) (hB : SBase a₀ st) (h2 : 2 ≤ a₀.size) (hmr : minRun' a₀.size a₀.size 0 ≤ a₀.size) (hs : SortedTo (arrOf st) a₀.size)
    (h : ∀ st', (arrOf st').Perm a₀ → failedOf st' = none → SortedTo (arrOf st') a₀.size → Q () st') : wpS (model prog w) A E s sortRuns' Q st := by
  rw [sortRuns'_eq]
  refine wpS_bind (wpS_get ?_)
  dsimp only
  simp only [hB.size]
  refine wpS_bind (wpS_mono (wpS_forRange
    (I := fun x c st' => (x = 0 ∧ c = (none, 0) ∧ SBase a₀ st' ∧ SortedTo (arrOf st') a₀.size) ∨ (1 ≤ x ∧ c = (none, a₀.size) ∧ SDone a₀ st'))
    (Q := fun c st' => c = (none, a₀.size) ∧ SDone a₀ st') ?step ?fin (.inl ⟨rfl, rfl, hB, hs⟩)) ?post)
  case fin =>
    rintro c st' (⟨hx, _, _⟩ | ⟨_, hc, hD⟩)
    · omega
    · exact ⟨hc, hD⟩
  case step =>
    rintro x c st' _ hx (⟨rfl, rfl, hB', hs'⟩ | ⟨hx1, rfl, hD⟩)
    · dsimp only
      rw [if_neg (by omega)]
      simp only [Nat.sub_zero]
      refine wpS_bind (count_rising h0 (by omega) hB' hs' ?_)
      dsimp only
      rw [if_neg (by omega)]
      refine wpS_bind (wpS_get ?_)
      have hb : (pendingOf st').back? = none := by rw [hB'.pend]; rfl
      rw [hb]
      dsimp only
      refine wpS_bind (wpS_modify (wpS_pure (.inr ⟨by omega, by rw [Nat.zero_add], hB'.done hs'⟩)))
    · dsimp only
      rw [if_pos (Nat.le_refl _)]
      exact wpS_pure ⟨rfl, hD⟩
  case post =>
    rintro c st' ⟨rfl, hD⟩
    dsimp only
    refine wpS_bind (wpS_mono (wpS_forRange (I := fun _ c st'' => st'' = st' ∧ c = (none, ())) (Q := fun c st'' => st'' = st' ∧ c = (none, ())) ?_ (fun _ _ hh => hh) ⟨rfl, rfl⟩) ?_)
    · rintro x c st'' _ _ ⟨rfl, rfl⟩
      refine wpS_bind (wpS_get ?_)
      rw [if_pos (by rw [hD.2.2.1]; exact Nat.le_refl 1)]
      exact wpS_pure ⟨rfl, rfl⟩
    · rintro c st'' ⟨rfl, rfl⟩
      exact wpS_pure (h _ hD.1 hD.2.1 hD.2.2.2)
theorem pairs_rising {vs : List Value} {ns : List Int} (hI : IntsAre vs ns) (hp : ns.Pairwise (· ≤ ·)) : SortedTo (pairsOf vs) (pairsOf vs).size := by
  intro i j hij hj
  rcases Nat.eq_or_lt_of_le hij with e | hlt
  · rw [e]; exact Int.le_refl _
  have hj' : j < (pairsOf vs).size := hj
  rw [K_eq (by omega), K_eq hj']
  have e2 : ns = vs.map numOf := hI.nums.symm
  rw [pairsOf_size] at hj
  rw [e2, List.pairwise_iff_getElem] at hp
  have := hp i j (by rw [List.length_map]; omega) (by rw [List.length_map]; omega) hlt
  simpa [pairsOf] using this
theorem sort_tree64 {a : Addr} {vs : List Value} {ns : List Int} {n : Nat} {P : PySem.Fin → Shared → Prop} (ho : s.heap.get? a = some (seqObj "list" vs.toArray n))
    (hI : IntsAre vs ns) (h64 : vs.length = 64) (hri : ns.Pairwise (· ≤ ·))
    (h : ∀ (out : Array Value) (ns' : List Int), IntsAre out.toList ns' → ns'.Perm ns → ns'.Pairwise (· ≤ ·) → P (.done (.ret .none)) { s with heap := sortedHeap s.heap a vs out }) :
    wpAny (model prog w) A (Builtin.«list.sort» ⟨[.ref a], []⟩) P E s := by
  rw [list_sort_plain]
  have ha : a < s.heap.objs.size := Heap.lt_size ho
  refine wpAny_bind (listItems_at ho rfl ?_)
  refine wpAny_bind (listUpdate_at ho rfl ?_)
  obtain ⟨e1, ho1⟩ : ∃ e1, (s.heap.update a (Obj.mapSeq fun _ => #[])).get? a = some (seqObj "list" #[] e1) := ⟨_, get?_update_seq ho (fun _ => #[])⟩
  refine wpAny_bind (seqEpoch_at ho1 rfl ?_)
  refine wpAny_bind (wpAny_newTuple ?_)
  refine wpAny_bind (wpAny_newList ?_)
  refine wpAny_holding ?_
  have ho6 : (((s.heap.update a (Obj.mapSeq fun _ => #[])).push (seqObj "tuple" vs.toArray 0)).push (seqObj "list" #[] 0)).get? a = some (seqObj "list" #[] e1) := by
    rw [Heap.get?_push_ne _ _ _ (by rw [size_push', Heap.size_update]; exact Nat.ne_of_lt (Nat.lt_succ_of_lt ha)), Heap.get?_push_ne _ _ _ (by rw [Heap.size_update]; exact Nat.ne_of_lt ha)]
    exact ho1
  show wpAny (model prog w) A _ P E { s with heap := ((s.heap.update a (Obj.mapSeq fun _ => #[])).push (seqObj "tuple" vs.toArray 0)).push (seqObj "list" #[] 0) }
  dsimp only
  have hsz : vs.toArray.size = vs.length := by simp
  have fin : ∀ st' : SortSt, (arrOf st').Perm (pairsOf vs) → SortedTo (arrOf st') (pairsOf vs).size →
      P (.done (.ret .none)) { s with heap := sortedHeap s.heap a vs ((arrOf st').map (·.2)) } := by
    intro st' hp hs
    obtain ⟨ns', h1, h2, h3⟩ := sorted_out hI hp hs
    exact h _ ns' h1 h2 h3
  have h2 : ¬ vs.toArray.size < 2 := by omega
  rw [if_neg h2, if_neg h2]
  have hsz2 : (pairsOf vs).size = 64 := by rw [pairsOf_size, h64]
  obtain ⟨v₁, v₂, rest, rfl⟩ : ∃ v₁ v₂ rest, vs = v₁ :: v₂ :: rest := by
    match vs, hsz, h2 with
    | [], _, h2 => simp at h2
    | [_], _, h2 => simp at h2
    | v₁ :: v₂ :: rest, _, _ => exact ⟨v₁, v₂, rest, rfl⟩
  rw [keyKind_ints hI]
  refine wpAny_bind (wpAny_pure ?_)
  refine wpAny_bind (wpAny_mono (runs_rising (a₀ := pairsOf (v₁ :: v₂ :: rest)) (st := SortSt.mk' oneType' ((v₁ :: v₂ :: rest).toArray.zip (v₁ :: v₂ :: rest).toArray) #[] 7 none)
    (Q := fun _ st' => (arrOf st').Perm (pairsOf (v₁ :: v₂ :: rest)) ∧ failedOf st' = none ∧ SortedTo (arrOf st') (pairsOf (v₁ :: v₂ :: rest)).size)
    hI.intKeys ⟨Array.Perm.refl _, rfl, rfl, rfl⟩ (by rw [hsz2]; decide) (by rw [hsz2]; decide) (pairs_rising hI hri) fun st' a1 a2 a3 => ⟨a1, a2, a3⟩) ?_ fun _ _ e => e)
  rintro ⟨⟨⟩, st'⟩ s' ⟨rfl, hp, hf, hs⟩
  dsimp only
  refine wpAny_bind (seqEpoch_at ho6 rfl ?_)
  refine wpAny_bind (listUpdate_at ho6 rfl ?_ (hsz2 := by refine Nat.le_trans (Nat.le_of_eq ((Array.size_map ..).trans (hp.size_eq.trans (pairsOf_size _)))) ?_; rw [sizeLine_eq]; omega))
  rw [hf]
  simp only [bne_self_eq_false, Bool.false_eq_true, if_false]
  exact wpAny_pure (fin st' hp hs)
theorem sorted64 {l : Addr} {vs : List Value} {ns : List Int} {Q : Value → Shared → Prop} (hl : s.heap.IsList l vs.toArray) (hI : IntsAre vs ns) (h64 : vs.length = 64) (hri : ns.Pairwise (· ≤ ·))
    (h : ∀ (out : Array Value) (ns' : List Int), IntsAre out.toList ns' → ns'.Perm ns → ns'.Pairwise (· ≤ ·) → Q (.ref (s.heap.objs.size + 1)) { s with heap := sortedAll s.heap vs out }) :
    wpAny (model prog w) A (call (.builtin "sorted") [.ref l]) Q E s := by
  refine Calls.call_function_entry kind_sorted plain_sorted entry_sorted (args_sorted1 _) ?_
  unfold Builtin.«sorted»
  refine wpAny_bind (m := checkCount "sorted" 1 1 _) (wpAny_pure ?_)
  refine wpAny_bind (collect_list hl ?_)
  refine wpAny_bind (wpAny_newList ?_)
  have hsz : ((s.heap.push (seqObj "list" #[] 0)).update s.heap.objs.size (Obj.mapSeq (· ++ vs.toArray))).objs.size = s.heap.objs.size + 1 := by
    rw [Heap.size_update, size_push']
  have hoL : (((s.heap.push (seqObj "list" #[] 0)).update s.heap.objs.size (Obj.mapSeq (· ++ vs.toArray))).push (seqObj "list" vs.toArray 0)).get? (s.heap.objs.size + 1) = some (seqObj "list" vs.toArray 0) := by
    rw [← hsz]; exact Heap.get?_push_size _ rfl
  show wpAny _ _ _ _ _ { s with heap := ((s.heap.push (seqObj "list" #[] 0)).update s.heap.objs.size (Obj.mapSeq (· ++ vs.toArray))).push (seqObj "list" vs.toArray 0) }
  rw [hsz]
  refine wpAny_bind (wpAny_holding (wpAny_call_entry slot_list_sort ⟨_, hoL, rfl⟩ entry_list_sort (sort_tree64 hoL hI h64 hri fun out ns' a1 a2 a3 => ⟨_, rfl, ?_⟩) (args_list_sort _)))
  exact wpAny_pure ⟨_, rfl, h out ns' a1 a2 a3⟩
end
section
variable {X : Cx}
theorem call_sortedR : CallR X (.builtin "sorted") (fun xs H Q => ∃ (p : Addr) (ns : List Int), xs = [.ref p] ∧ SqL X.K H p (ns.map V.int) ∧ (ns.length < 64 ∨ (ns.length = 64 ∧ ns.Pairwise (· ≤ ·))) ∧ ∀ l (ns' : List Int), H l = none → ns'.Perm ns → ns'.Pairwise (· ≤ ·) → Q (.ref l) (upd H l (.lst (ns'.map V.int)))) := by
  intro pins s σ H xs us Q I r h
  obtain ⟨p, ns, rfl, hq, h64, q⟩ := h
  rcases h64 with h64 | ⟨h64, hri⟩
  · exact call_sorted pins s σ H [.ref p] us Q I r ⟨p, ns, rfl, hq, h64, q⟩
  obtain ⟨u, rfl, rx⟩ := vals1 r
  cases rx
  obtain ⟨its, rv, pl, hz⟩ := I.list hq
  have hl := rv.length
  rw [List.length_map] at hl
  refine sorted64 pl.isList (ints_are rv) (by omega) hri fun out ns' hI hp hs => ?_
  obtain ⟨e, hg⟩ := sortedAll_at s.heap its out
  have h1 : 64 ≤ sizeLine := by decide
  have hlen : ns'.length ≤ sizeLine := by rw [hp.length_eq]; omega
  exact ⟨.ref _, _, I.laid (t' := s.toks) (o := .lst (ns'.map V.int)) (fun b o q => sortedAll_old q) (Nat.le_succ _) ⟨by rw [List.length_map]; exact hlen, out.toList, e, vals_of_ints hI, hg⟩, rfl, q _ ns' (I.hok.fresh (Nat.le_succ _)) hp hs⟩
end
end L2
namespace L2
open PySem PySem.Spec PyProof.Rows
section
variable {X : Cx} {L : List Str} {sc : Scope}
noncomputable def tLR1 (ta : TA) : TE := fun σ H Q => ta σ H fun vs H1 => ∃ j : Int, vs = [.int j] ∧ (-(2 ^ 62) ≤ j ∧ j < 2 ^ 62) ∧ j.toNat ≤ 100000 ∧ ∀ p, H1 p = none → Q (.ref p) (upd H1 p (.lst ((List.range j.toNat).map fun k : Nat => V.int (0 + (k : Int)))))
theorem lRg1 {i j : Nat} {a : Expr} {ta : TA} {p1 p2 pos pos2 : Pos} (G : Gs L sc) (hm : X.mg "range" = none) (hml : X.mg "list" = none) (ha : PA X [a] ta) (hca : X.calm = true := by rfl) (hL : L[i]? = some "range" := by rfl) (hL2 : L[j]? = some "list" := by rfl) (h2 : X.env.scope = sc := by rfl)
    (hs : starEach [a] X.env = [(false, eval a X.env)] := by rfl) (hs3 : starEach [.Call (.Name "range" p2) [a] [] pos2] X.env = [(false, eval (.Call (.Name "range" p2) [a] [] pos2) X.env)] := by rfl) :
    PE X (.Call (.Name "list" p1) [.Call (.Name "range" p2) [a] [] pos2] [] pos) (tLR1 ta) := by
  constructor
  intro pins s σ H Q I h
  refine Call_ (ld_blt I (glX G hL2 h2) hml bt_list (PyProof.Rows.callWith_type1 ?_ hs3 rfl))
  rw [hs3]
  show wpAny _ _ (spliced ((false, eval (.Call (.Name "range" p2) [a] [] pos2) X.env) :: backTo pos [])) _ _ s
  refine Calls.spliced_cons (Call_ (ld_blt I (glX G hL h2) hm boot_range (PyProof.Rows.callWith_type1 (thn (ha pos2 pins s σ H _ I h) fun us s1 ⟨vs, H1, I1, r1, q1⟩ => ?_) hs rfl)))
  obtain ⟨j, e, ⟨q1, q2⟩, hn, q⟩ := q1
  subst e
  cases r1 with
  | cons r rr =>
    cases rr
    obtain ⟨t, rfl⟩ := r
    refine call_range_1 (Calls.spliced_nil ?_)
    have hd : X.A.handled = none := I1.ok.hd hca
    have I2 : Inv X pins σ H1 { s1 with heap := s1.heap.push { cls := .type "range", data := .fields #[.int 0 s1.toks, .int j t, .int 1 (s1.toks + 1)] }, toks := s1.toks + 1 + 1 } := I1.kept fun b o e => Heap.get?_push_of_some _ e
    refine call_list_range hd (IsRange.new ..) (small_one (by omega) (by omega) q1 q2) (n := j.toNat) (by rw [rangeSize_one]; split <;> omega) (by omega) fun h' tk acc' c' kp hg' hi => ?_
    have hlen : ((List.range j.toNat).map fun k : Nat => V.int (0 + k)).length ≤ sizeLine := by
      rw [List.length_map, List.length_range]
      have h24 : 100000 ≤ sizeLine := by decide
      omega
    exact ⟨.ref _, _, I2.laid (t' := tk) kp (Nat.le_refl _) (o := .lst ((List.range j.toNat).map fun k : Nat => V.int (0 + k))) ⟨hlen, acc'.toList, c', vals_rng hi, hg'⟩, rfl, q _ (I2.hok.fresh (Nat.le_refl _))⟩
end
end L2
namespace L2
open PySem PySem.Spec PyProof.Rows
theorem comp_filterI {K : PySem.W.Frag} {a : Addr} {xs : List V} {caps : List (Option Nat)} {j : Nat} {ti : TT} {te : TE} {σ : St} {H1 : Hp} {D : Addr} {Q : VK} (R : Nat → List V → Hp → Prop) (keep : Nat → Bool) (ha : SqL K H1 a xs) (hD : H1 D = none) (hn : xs.length ≤ 100000)
    (h0 : R 0 [] (upd H1 D (.lst []))) (mono : ∀ i ys H o zs, H D = some (.lst zs) → R i ys H → R i ys (upd H D o))
    (tst : ∀ i x H2 Q', xs[i]? = some x → Same H1 H2 → Q' (keep i) H2 → ti ((capOf caps σ).set j (some x)) H2 Q')
    (step : ∀ i x ys H2 Q', xs[i]? = some x → keep i = true → Same H1 H2 → H2 D = some (.lst ys) → R i ys H2 → (∀ v H3, Same H2 H3 → R (i + 1) (ys ++ [v]) H3 → Q' v H3) → te ((capOf caps σ).set j (some x)) H2 Q')
    (skip : ∀ i ys H2, keep i = false → R i ys H2 → R (i + 1) ys H2)
    (fin : ∀ H2 ys, Same H1 H2 → H2 D = some (.lst ys) → R xs.length ys H2 → Q (.ref D) H2) : CompW (Itl K a) caps j ti te σ H1 D Q := by
  have hz : 100000 < sizeLine := by decide
  refine ⟨fun i m H2 => m = xs.length - i ∧ i ≤ xs.length ∧ Same H1 H2 ∧ ∃ ys, H2 D = some (.lst ys) ∧ ys.length ≤ i ∧ R i ys H2, ⟨xs.length, by simp, Nat.zero_le _, Same.new hD _, [], upd_same, Nat.le_refl _, h0⟩, ?_⟩
  rintro i m H2 ⟨rfl, hi, sm, ys, hl, hy, hR⟩
  by_cases hlt : i < xs.length
  · refine .inr ⟨⟨xs, xs[i], sm.seq ha, by simp [hlt]⟩, fun x H3 y => ?_⟩
    obtain ⟨rfl, y⟩ := y
    have hx := y xs (sm.seq ha)
    refine tst i x _ _ hx sm ?_
    cases hk : keep i with
    | true =>
      rw [if_pos rfl]
      refine step i x ys _ _ hx hk sm hl hR fun v H4 s4 hR4 => ?_
      have hl4 := s4 _ _ hl
      exact ⟨ys, hl4, by omega, xs.length - (i + 1), by omega, rfl, hlt, (sm.trans s4).upd hD hl4 _, _, upd_same, by rw [List.length_append]; simp; omega, mono _ _ _ _ _ hl4 hR4⟩
    | false =>
      rw [if_neg Bool.false_ne_true]
      exact ⟨xs.length - (i + 1), by omega, rfl, hlt, sm, ys, hl, by omega, skip i ys _ hk hR⟩
  · have e : i = xs.length := by omega
    subst e
    exact .inl ⟨⟨xs, sm.seq ha, Nat.le_refl _⟩, fin H2 ys sm hl hR⟩
end L2
namespace L2
open PySem PySem.Spec PyProof.Rows
section
variable {X : Cx}
theorem call_min3 (hc : X.calm = true) : CallR X (.builtin "min") (fun xs H Q => ∃ i j k, xs = [.int i, .int j, .int k] ∧ ∀ m, (m = i ∨ m = j ∨ m = k) → m ≤ i → m ≤ j → m ≤ k → Q (.int m) H) := by
  intro pins s σ H xs us Q I r h
  obtain ⟨i, j, k, rfl, q⟩ := h
  cases r with
  | cons r1 r =>
    cases r with
    | cons r2 r =>
      cases r with
      | cons r3 r =>
        cases r
        obtain ⟨t1, rfl⟩ := r1
        obtain ⟨t2, rfl⟩ := r2
        obtain ⟨t3, rfl⟩ := r3
        refine min_three_ints (I.ok.hd hc) fun h' tk kp => ?_
        have I' : Inv X pins σ H { s with heap := h', toks := tk } := I.kept kp
        by_cases c1 : j < i
        · rw [if_pos c1]
          by_cases c2 : k < j
          · rw [if_pos c2]
            exact ⟨.int k, H, I', ⟨_, rfl⟩, q k (by omega) (by omega) (by omega) (by omega)⟩
          · rw [if_neg c2]
            exact ⟨.int j, H, I', ⟨_, rfl⟩, q j (by omega) (by omega) (by omega) (by omega)⟩
        · rw [if_neg c1]
          by_cases c2 : k < i
          · rw [if_pos c2]
            exact ⟨.int k, H, I', ⟨_, rfl⟩, q k (by omega) (by omega) (by omega) (by omega)⟩
          · rw [if_neg c2]
            exact ⟨.int i, H, I', ⟨_, rfl⟩, q i (by omega) (by omega) (by omega) (by omega)⟩
end
end L2
set_option Elab.async false
set_option linter.all false
set_option maxRecDepth 100000
set_option maxHeartbeats 1000000
namespace L2
open PySem PySem.Spec PyProof.Rows
noncomputable def unV (e : Int × Value) : Int × Value := (e.1, .none)
theorem insertAt_map {α β : Type} (f : α → β) (xs : Array α) (p : Nat) (x : α) : (SetTable.insertAt xs p x).map f = SetTable.insertAt (xs.map f) p (f x) := by
  simp [SetTable.insertAt]
theorem layNew_un (t : SetTable) (es : Array (Int × Value)) (e : Int × Value) : layNew t (es.map unV) (unV e).1 (unV e).2 = ((layNew t es e.1 e.2).1.map unV, (layNew t es e.1 e.2).2) := by
  have e1 : (unV e).1 = e.1 := rfl
  have e2 : ∀ (p : Nat), SetTable.insertAt (es.map unV) p (e.1, (unV e).2) = (SetTable.insertAt es p (e.1, e.2)).map unV := fun p => (insertAt_map unV es p (e.1, e.2)).symm
  rw [e1]
  unfold layNew
  cases t.freeSlot e.1 with
  | none => simp [unV]
  | some r => simp [e2]
theorem relayAll_un (t : SetTable) (es : Array (Int × Value)) (w : Nat) : relayAll t (es.map unV) w = ((relayAll t es w).1.map unV, (relayAll t es w).2) := by
  have e1 : (es.map unV).map (·.1) = es.map (·.1) := by simp [unV, Function.comp_def]
  unfold relayAll
  rw [e1, Array.size_map]
  cases t.relaid (es.map (·.1)) w with
  | none => rfl
  | some r =>
    obtain ⟨t', order⟩ := r
    have e2 : order.filterMap (fun i => (es.map unV)[i]?) = (order.filterMap (fun i => es[i]?)).map unV := by
      rw [Array.map_filterMap]
      congr 1
      funext i
      simp
    dsimp only
    rw [e2, Array.size_map]
    split <;> rfl
noncomputable def addE (q : Array (Int × Value) × SetTable) (e : Int × Value) : Array (Int × Value) × SetTable :=
  let r := layNew q.2 q.1 e.1 e.2
  if (!r.2.2.1 && r.2.1.tooFull) = true then ((relayAll r.2.1 r.1 (SetTable.grown r.1.size)).1, (relayAll r.2.1 r.1 (SetTable.grown r.1.size)).2.1) else (r.1, r.2.1)
theorem addE_un (q : Array (Int × Value) × SetTable) (e : Int × Value) : addE (q.1.map unV, q.2) (unV e) = ((addE q e).1.map unV, (addE q e).2) := by
  unfold addE
  dsimp only
  rw [layNew_un]
  dsimp only
  split
  · rw [Array.size_map, relayAll_un]
  · rfl
theorem addE_perm (q : Array (Int × Value) × SetTable) (e : Int × Value) : List.Perm (addE q e).1.toList (e :: q.1.toList) := by
  have h1 := layNew_perm q.2 q.1 e.1 e.2
  rw [Array.toList_push] at h1
  have h2 := h1.trans List.perm_append_comm
  unfold addE
  dsimp only
  split
  · exact (relayAll_perm ..).trans h2
  · exact h2
theorem addE_fits (q : Array (Int × Value) × SetTable) (e : Int × Value) : (addE q e).2.fits (addE q e).1.size = true := by
  unfold addE
  dsimp only
  split
  · exact relayAll_fits ..
  · exact layNew_fits ..
noncomputable def layAll (led : Bool) (es : List (Int × Value)) : Array (Int × Value) × SetTable := es.foldl addE (#[], .fresh 0 0 led)
theorem layAll_snoc (led : Bool) (es : List (Int × Value)) (e : Int × Value) : layAll led (es ++ [e]) = addE (layAll led es) e := by
  unfold layAll; rw [List.foldl_append]; rfl
theorem fold_un : ∀ (es : List (Int × Value)) (q : Array (Int × Value) × SetTable), (es.map unV).foldl addE (q.1.map unV, q.2) = ((es.foldl addE q).1.map unV, (es.foldl addE q).2)
  | [], _ => rfl
  | e :: es, q => by
    rw [List.map_cons, List.foldl_cons, List.foldl_cons, addE_un]
    exact fold_un es (addE q e)
theorem layAll_un (led : Bool) (es : List (Int × Value)) : layAll led (es.map unV) = ((layAll led es).1.map unV, (layAll led es).2) := by
  have h := fold_un es (#[], .fresh 0 0 led)
  rw [show Array.map unV (#[], SetTable.fresh 0 0 led).fst = #[] by simp] at h
  exact h
theorem fold_perm : ∀ (es : List (Int × Value)) (q : Array (Int × Value) × SetTable), List.Perm (es.foldl addE q).1.toList (q.1.toList ++ es)
  | [], _ => by simp
  | e :: es, q => by
    rw [List.foldl_cons]
    refine (fold_perm es (addE q e)).trans ?_
    refine ((addE_perm q e).append_right es).trans ?_
    exact List.perm_middle.symm
theorem layAll_perm (led : Bool) (es : List (Int × Value)) : List.Perm (layAll led es).1.toList es := by
  have := fold_perm es (#[], .fresh 0 0 led)
  simpa [layAll] using this
noncomputable def walkT (led : Bool) (n : Nat) (t : SetTable) : Bool := t.plain && (t.led == led) && t.fits n && (List.range (n + 1)).all fun i => SetTable.below t.place (if i = 0 then 0 else t.place.getD (i - 1) 0 + 1) == i
noncomputable def subs : List Int → List (List Int)
  | [] => [[]]
  | x :: xs => subs xs ++ (subs xs).map (x :: ·)
noncomputable def upTo : Int → Nat → List Int
  | _, 0 => []
  | a, n + 1 => a :: upTo (a + 1) n
theorem mem_subs : ∀ (n : Nat) (a : Int) (ks : List Int), ks.Pairwise (· < ·) → (∀ k ∈ ks, a ≤ k ∧ k < a + n) → ks ∈ subs (upTo a n)
  | 0, a, ks, _, h => by
    cases ks with
    | nil => simp [subs, upTo]
    | cons k ks => have := h k List.mem_cons_self; omega
  | n + 1, a, ks, hp, h => by
    rw [upTo, subs, List.mem_append]
    by_cases c : ∃ l, ks = a :: l
    · obtain ⟨l, rfl⟩ := c
      rw [List.pairwise_cons] at hp
      refine .inr (List.mem_map.mpr ⟨l, mem_subs n (a + 1) l hp.2 fun k hk => ?_, rfl⟩)
      have h1 := hp.1 k hk
      have h2 := h k (List.mem_cons_of_mem _ hk)
      omega
    · refine .inl (mem_subs n (a + 1) ks hp fun k hk => ?_)
      have h2 := h k hk
      cases ks with
      | nil => cases hk
      | cons x l =>
        have hx := h x List.mem_cons_self
        have hxa : x ≠ a := fun z => c ⟨l, by rw [z]⟩
        rw [List.pairwise_cons] at hp
        rcases List.mem_cons.mp hk with rfl | hk
        · omega
        · have := hp.1 k hk
          omega
noncomputable def keyE (k : Int) : Int × Value := (hashInt k, .none)
theorem walkT_all : (subs (upTo 0 9)).all (fun ks => decide (5 < ks.length) || (walkT true ks.length (layAll true (ks.map keyE)).2 && walkT false ks.length (layAll false (ks.map keyE)).2)) = true := by decide +kernel
end L2
namespace L2
open PySem PySem.Spec PyProof.Rows
noncomputable def setO (es : Array (Int × Value)) (ep : Nat) (t : SetTable) : Obj := { cls := .type "set", dict := none, data := .set es ep t }
theorem setO_store {h : Heap} {a : Addr} {es : Array (Int × Value)} {ep : Nat} {t : SetTable} (ho : h.get? a = some (setO es ep t)) (es' : Array (Int × Value)) (t' : SetTable) : (h.update a (Obj.putSet es' t')).get? a = some (setO es' (ep + 1) t') :=
  Heap.get?_update_self (Obj.putSet es' t') ho rfl
section
variable {prog : Program} {w : World} {A : Around} {E : Value → Shared → Prop} {s : Shared}
theorem add_exact {a : Addr} {es : Array (Int × Value)} {ep : Nat} {t : SetTable} {k : Int} {tk : Tok} {Q : Bool → Shared → Prop}
    (ho : s.heap.get? a = some (setO es ep t)) (hf : t.fits es.size = true) (hel : ElemsOf (intKind prog w) es.toList) (hb : es.size + 1 < scanBound) (hno : ∀ e ∈ es.toList, (intKind prog w).is k e.2 = false)
    (h : ∀ h' ep', Heap.SameBut a s.heap h' → h'.get? a = some (setO (addE (es, t) (hashInt k, .int k tk)).1 ep' (addE (es, t) (hashInt k, .int k tk)).2) → Q true { s with heap := h' }) :
    wpAny (model prog w) A (setAddHashed a (.int k tk) (hashInt k)) Q E s := by
  have gw : ∀ (b : Bool) {s1 : Shared} {Q' : Unit → Shared → Prop}, Q' () s1 → wpAny (model prog w) A (match b with | true => rule "set.scan.the-table-gave-way" | false => pure ()) Q' E s1 := fun b s1 Q' q => by
    cases b
    · exact wpAny_pure q
    · exact wpAny_rule q
  unfold setAddHashed
  unfold setAddHashedIn
  refine wpAny_holding (wpAny_bind (wpAny_setState_of ho rfl hf ?_))
  dsimp only
  rw [byScan_of (knd := intKind prog w) rfl (by omega) hel, if_pos rfl]
  unfold setAddByScan
  refine wpAny_bind (wpAny_bind (wpAny_rule (wpAny_bind ?_)))
  refine wpAny_setScan_of (knd := intKind prog w) (k := k) (intKind_is _ _ _ _) ho rfl hf hel ?_
  rw [List.findIdx?_eq_none_iff.mpr hno]
  dsimp only
  have hz : es.size + 1 ≤ sizeLine := fits_of_scanBound hb
  have p1 := layNew_perm t es (hashInt k) (.int k tk)
  have hadd : addE (es, t) (hashInt k, .int k tk) = if (!(layNew t es (hashInt k) (.int k tk)).2.2.1 && (layNew t es (hashInt k) (.int k tk)).2.1.tooFull) = true then ((relayAll (layNew t es (hashInt k) (.int k tk)).2.1 (layNew t es (hashInt k) (.int k tk)).1 (SetTable.grown (layNew t es (hashInt k) (.int k tk)).1.size)).1, (relayAll (layNew t es (hashInt k) (.int k tk)).2.1 (layNew t es (hashInt k) (.int k tk)).1 (SetTable.grown (layNew t es (hashInt k) (.int k tk)).1.size)).2.1) else ((layNew t es (hashInt k) (.int k tk)).1, (layNew t es (hashInt k) (.int k tk)).2.1) := rfl
  rw [hadd] at h
  generalize layNew t es (hashInt k) (.int k tk) = L at p1 h ⊢
  obtain ⟨es1, t1, wd, gv⟩ := L
  dsimp only at p1 h ⊢
  have z1 : es1.size ≤ sizeLine := by
    have := p1.length_eq
    simp only [Array.length_toList, Array.size_push] at this
    omega
  have o1 := setO_store ho es1 t1
  have sb1 := Heap.SameBut.update s.heap a (Obj.putSet es1 t1)
  have last : ∀ (b : Bool), b = true → wpAny (model prog w) A (do
      storeSet a es1 (if b = true then t1 else { t1 with plain := false })
      if (!wd && (if b = true then t1 else { t1 with plain := false }).tooFull) = true then do
          (match (relayAll (if b = true then t1 else { t1 with plain := false }) es1 (SetTable.grown es1.size)).2.2 with | true => rule "set.scan.the-table-gave-way" | false => pure ())
          storeSet a (relayAll (if b = true then t1 else { t1 with plain := false }) es1 (SetTable.grown es1.size)).1 (relayAll (if b = true then t1 else { t1 with plain := false }) es1 (SetTable.grown es1.size)).2.1
          pure (some true)
        else pure (some true)) (fun r s' => r = some true ∧ Q true s') E s := by
    rintro b rfl
    simp only [if_true]
    refine wpAny_bind (wpAny_storeSet_of ho rfl ?_ z1)
    by_cases c : (!wd && t1.tooFull) = true
    · rw [if_pos c] at h ⊢
      have p2 := relayAll_perm t1 es1 (SetTable.grown es1.size)
      refine wpAny_bind (gw _ ?_)
      refine wpAny_bind (wpAny_storeSet_of o1 rfl (wpAny_pure ⟨rfl, ?_⟩) ?_)
      · exact h _ _ (sb1.trans (Heap.SameBut.update _ a _)) (setO_store o1 _ _)
      · have := p2.length_eq
        simp only [Array.length_toList] at this
        omega
    · rw [if_neg c] at h ⊢
      exact wpAny_pure ⟨rfl, h _ _ sb1 o1⟩
  refine wpAny_bind (gw _ ?_)
  split
  · refine wpAny_bind ?_
    show wpAny _ _ (pure true) _ _ _
    refine wpAny_pure (wpAny_mono (last true rfl) ?_ fun _ _ e => e)
    rintro r s' ⟨rfl, q⟩
    exact wpAny_pure q
  · refine wpAny_bind (wpAny_pure (wpAny_mono (last true rfl) ?_ fun _ _ e => e))
    rintro r s' ⟨rfl, q⟩
    exact wpAny_pure q
end
end L2
namespace L2
open PySem PySem.Spec PyProof.Rows
noncomputable def elE : Value → Int × Value
  | .int k t => (hashInt k, .int k t)
  | v => (0, v)
section
variable {prog : Program} {w : World} {A : Around} {R : Result → Shared → Prop}
theorem elE_ok {vs : List Value} {ns : List Int} (hI : IntsAre vs ns) (i : Nat) : ElemsOf (intKind prog w) ((vs.take i).map elE) := by
  intro e he
  obtain ⟨v, hv, rfl⟩ := List.mem_map.mp he
  obtain ⟨j, hj⟩ := List.mem_iff_getElem?.mp (List.mem_of_mem_take hv)
  obtain ⟨t, rfl⟩ := hI.int_at j v hj
  exact ⟨⟨_, intKind_is _ _ _ _, rfl⟩, rfl⟩
theorem elE_new {vs : List Value} {ns : List Int} {i : Nat} {k : Int} {tk : Tok} (hI : IntsAre vs ns) (hd : ns.Pairwise (· < ·)) (hi : vs[i]? = some (.int k tk)) : ∀ e ∈ (vs.take i).map elE, (intKind prog w).is k e.2 = false := by
  intro e he
  obtain ⟨v, hv, rfl⟩ := List.mem_map.mp he
  obtain ⟨j, hj⟩ := List.mem_iff_getElem?.mp hv
  have hl : vs.length = ns.length := hI.length
  have hji : j < i := by
    have := (List.getElem?_eq_some_iff.mp hj).1
    rw [List.length_take] at this
    omega
  rw [List.getElem?_take_of_lt hji] at hj
  obtain ⟨t, rfl⟩ := hI.int_at j v hj
  obtain ⟨t2, e2⟩ := hI.int_at i _ hi
  have hjl := (List.getElem?_eq_some_iff.mp hj).1
  have hil := (List.getElem?_eq_some_iff.mp hi).1
  have hk : k = ns.getD i 0 := by injection e2
  rw [List.getD_eq_getElem?_getD, List.getElem?_eq_getElem (by omega)] at hk
  show (intKind prog w).is k (.int (ns.getD j 0) t) = false
  rw [List.getD_eq_getElem?_getD, List.getElem?_eq_getElem (show j < ns.length by omega)]
  have hlt := List.pairwise_iff_getElem.mp hd j i (by omega) (by omega) hji
  have hx : (Option.some (ns[i]'(by omega))).getD 0 = ns[i]'(by omega) := rfl
  rw [hx] at hk
  rw [hk]
  show (ns[j]'(by omega) == ns[i]'(by omega)) = false
  exact beq_eq_false_iff_ne.mpr (by omega)
theorem layAll_fits (led : Bool) (es : List (Int × Value)) : (layAll led es).2.fits (layAll led es).1.size = true := by
  rcases List.eq_nil_or_concat es with rfl | ⟨l, e, rfl⟩
  · rfl
  · rw [List.concat_eq_append, layAll_snoc]; exact addE_fits ..
theorem upd_exact {l I S : Addr} {items : Array Value} {ns : List Int} {led : Bool} (hh : A.in1.handled = none) (hne : l ≠ I) (hSI : S ≠ I) (hSl : S ≠ l) (hi : IntsAre items.toList ns) (hd : ns.Pairwise (· < ·)) (hb : items.size + 1 < scanBound) :
    ∀ (k i : Nat) (s : Shared) (ep : Nat), items.size - i = k → i ≤ items.size → s.heap.IsListIter I l i → s.heap.IsList l items → s.heap.get? S = some (setO (layAll led ((items.toList.take i).map elE)).1 ep (layAll led ((items.toList.take i).map elE)).2) →
      (∀ h' tk ep', (∀ b o, b ≠ S → b ≠ I → s.heap.get? b = some o → h'.get? b = some o) → h'.get? S = some (setO (layAll led (items.toList.map elE)).1 ep' (layAll led (items.toList.map elE)).2) → R (.ok (.ret .none)) { s with heap := h', toks := tk }) →
      codeAny (model prog w) A (.builtin "set.update.loop" ⟨[.ref S, .ref I], []⟩) R s := by
  intro k
  induction k with
  | zero =>
    intro i s ep hk hin hit hl hS hR
    have e : i = items.size := by omega
    subst e
    refine codeAny_builtin PyProof.Rows.F.entry_set_update_loop ?_
    rw [Around.under_plainId PyProof.Rows.F.plain_set_update_loop _]
    show wpAny _ A.in1 (pyNext (.ref I) >>= _) _ _ s
    refine wpAny_bind (wpAny_pyNext_list_end hh hit hl (by simp) fun h' he => ?_)
    show wpAny _ A.in1 (ret Value.none) _ _ _
    refine wpAny_pure (hR h' s.toks ep (fun b o _ hb e => he b o hb e) ?_)
    have := he S _ hSI hS
    rw [List.take_of_length_le (by simp)] at this
    exact this
  | succ k ih =>
    intro i s ep hk hin hit hl hS hR
    have hlt : i < items.size := by omega
    refine codeAny_builtin PyProof.Rows.F.entry_set_update_loop ?_
    rw [Around.under_plainId PyProof.Rows.F.plain_set_update_loop _]
    show wpAny _ A.in1 (pyNext (.ref I) >>= _) _ _ s
    have hx : items[i]? = some items[i] := by simp [hlt]
    refine wpAny_bind (wpAny_pyNext_list_item hit hl hx fun h1 hit1 hs1 => ?_)
    have hx2 : items.toList[i]? = some items[i] := by rw [Array.getElem?_toList]; exact hx
    obtain ⟨t, et⟩ := hi.int_at i _ hx2
    generalize items[i] = v at et hx hx2 ⊢
    subst et
    generalize ns.getD i 0 = c at hx hx2 ⊢
    have hl1 : h1.IsList l items := hl.extBut hs1.extBut hne
    have hS1 := hs1.extBut S _ hSI hS
    show wpAny _ A.in1 (holding [Value.int c t] (setAdd S (.int c t)) >>= _) _ _ _
    refine wpAny_bind (wpAny_holding ?_)
    unfold setAdd
    refine wpAny_holding (wpAny_bind ((intKind prog w).pyHash (k := c) (intKind_is _ _ _ _) ?_))
    have hp := layAll_perm led ((items.toList.take i).map elE)
    have hsz : (layAll led ((items.toList.take i).map elE)).1.size = i := by
      have := hp.length_eq
      simp only [Array.length_toList, List.length_map, List.length_take] at this
      omega
    have hel : ElemsOf (intKind prog w) (layAll led ((items.toList.take i).map elE)).1.toList := (elE_ok hi i).perm hp
    refine add_exact (s := { s with heap := h1, toks := s.toks + 1 }) hS1 (layAll_fits _ _) hel (by omega) (fun e he => elE_new hi hd hx2 e (hp.mem_iff.mp he)) fun h2 ep2 hs2 hS2 => ?_
    have et : (items.toList.take (i + 1)).map elE = (items.toList.take i).map elE ++ [(hashInt c, .int c t)] := by
      rw [List.take_succ, hx2, List.map_append]; rfl
    refine wpAny_pure ⟨plainId_quiet PyProof.Rows.F.plain_set_update_loop _, ih (i + 1) _ ep2 (by omega) hlt ?_ ?_ ?_ fun h' tk ep' kp hS' => ?_⟩
    · exact hit1.extBut hs2.extBut (Ne.symm hSI)
    · exact hl1.extBut hs2.extBut (Ne.symm hSl)
    · rw [et, layAll_snoc]; exact hS2
    · exact hR h' tk ep' (fun b o hb hbI e => kp b o hb hbI (hs2.extBut b o hb (hs1.extBut b o hbI e))) hS'
end
end L2
namespace L2
open PySem PySem.Spec PyProof.Rows
section
variable {prog : Program} {w : World} {A : Around} {E : Value → Shared → Prop} {s : Shared}
noncomputable def ledW (w : World) : Bool := !(w.params.followText "set-order")
theorem new_exact (a : Value) {Q1 : Value → Shared → Prop} (h : Q1 (.ref s.heap.objs.size) { s with heap := s.heap.push (setO #[] 0 (.fresh 0 0 (ledW w))) }) :
    codeAny (model prog w) A (.call (.builtin "set.__new__") ⟨[.type "set", a], []⟩) (wants Q1 E) s := by
  refine codeAny_call_builtin PySem.F.plain_set_new PySem.F.entry_set_new (wpAny_of_eq (PySem.F.newCall_set_1 a) ?_)
  unfold Builtin.«set.__new__» Builtin.Frozenset.newClass
  have z1 := sub_set_self
  obtain ⟨hp, g, d, tk, os⟩ := s
  dsimp only
  wp_walk
  refine wpAny_askSetting (wpAny_pure ?_)
  dsimp only
  simp only [newObj]
  exact wpAny_bind (wpAny_alloc (wpAny_pure (wpAny_pure h)))
theorem init_exact {l S : Addr} {items : Array Value} {ns : List Int} {P : Shared → Prop} (hh : A.in1.handled = none) (hS : s.heap.get? S = some (setO #[] 0 (.fresh 0 0 (ledW w)))) (hl : s.heap.IsList l items) (hSl : S ≠ l) (hi : IntsAre items.toList ns) (hd : ns.Pairwise (· < ·)) (hb : items.size + 1 < scanBound)
    (h : ∀ h' tk ep, h'.get? S = some (setO (layAll (ledW w) (items.toList.map elE)).1 ep (layAll (ledW w) (items.toList.map elE)).2) → (∀ b o, b ≠ S → s.heap.get? b = some o → h'.get? b = some o) → P { s with heap := h', toks := tk }) :
    wpAny (model prog w) A (Builtin.«set.__init__» ⟨[.ref S, .ref l], []⟩) (fun fin s' => fin = .done (.ret .none) ∧ P s') E s := by
  have hT : s.TypeIs (.ref S) "set" := ⟨_, hS, rfl⟩
  obtain ⟨ol, hol, hcl, nl, hdl⟩ := id hl
  obtain ⟨ocls, odict, odata, oslots⟩ := ol
  simp only at hcl hdl
  subst hcl; subst hdl
  have y1 := PySem.F.sub_list_set
  have y2 := PySem.F.sub_list_frozenset
  have y3 := sub_set_self
  have y4 : (Value.type "list" == Value.type "dict") = false := by decide
  unfold Builtin.«set.__init__» noKeywords Builtin.Frozenset.updateFrom
  generalize hPI : pyIter = PI
  wp_walk
  subst hPI
  refine wpAny_pyIter_list hl ?_
  refine wpAny_bind (wpAny_runValue ?_)
  have hlt : l < s.heap.objs.size := Heap.lt_size hol
  have hSt : S < s.heap.objs.size := Heap.lt_size hS
  refine upd_exact hh (Nat.ne_of_lt hlt) (Nat.ne_of_lt hSt) hSl hi hd hb items.size 0 _ 0 rfl (Nat.zero_le _) ⟨_, Heap.get?_push_size _ rfl, rfl, rfl⟩ (hl.push _) (Heap.get?_push_of_some _ hS) fun h' tk ep kp hS' => ?_
  show wpAny _ _ _ _ _ _
  refine wpAny_pure ?_
  show wpAny _ _ (ret Value.none) _ _ _
  exact wpAny_pure ⟨rfl, h h' tk ep hS' fun b o hb e => kp b o hb (Nat.ne_of_lt (Heap.lt_size e)) (Heap.get?_push_of_some _ e)⟩
theorem call_set_exact {l : Addr} {items : Array Value} {ns : List Int} {Q : Value → Shared → Prop} (hh : A.handled = none) (hl : s.heap.IsList l items) (hi : IntsAre items.toList ns) (hd : ns.Pairwise (· < ·)) (hb : items.size + 1 < scanBound)
    (h : ∀ h' tk ep, h'.get? s.heap.objs.size = some (setO (layAll (ledW w) (items.toList.map elE)).1 ep (layAll (ledW w) (items.toList.map elE)).2) → (∀ b o, s.heap.get? b = some o → h'.get? b = some o) → Q (.ref s.heap.objs.size) { s with heap := h', toks := tk }) :
    wpAny (model prog w) A (call (.type "set") [.ref l]) Q E s := by
  obtain ⟨c, tl, x1⟩ := PySem.F.called_set.mro
  have x2 := PySem.F.called_set.made
  have x3 := PySem.F.called_set.sub
  have x4 := PySem.F.called_set.notType
  have x5 := PySem.F.called_set.canCreate
  have x6 := PySem.F.typeCall_set_1 (.ref l)
  refine wpAny_call (codeAny_of_tree ?_)
  show wpAny _ _ (callAny (.type "set") _) _ _ _
  refine wpAny_pure ⟨Code.quiet_builtin _ (by decide +kernel), codeAny_builtin PySem.F.entry_type_call ?_⟩
  rw [Around.under_plain (weight_type_call_type "set" [.ref l] []) rfl]
  repeat (any_goals (first | assumption | wp_step))
  refine codeAny_mono (new_exact (.ref l) (E := E) (Q1 := fun obj s1 => obj = .ref s.heap.objs.size ∧ s1 = { s with heap := s.heap.push (setO #[] 0 (.fresh 0 0 (ledW w))) }) ⟨rfl, rfl⟩) fun r s1 hr => ?_
  cases r with
  | error e => exact hr
  | ok fl =>
    cases fl with
    | ret obj =>
      obtain ⟨rfl, rfl⟩ := hr
      have hS : (s.heap.push (setO #[] 0 (.fresh 0 0 (ledW w)))).get? s.heap.objs.size = some (setO #[] 0 (.fresh 0 0 (ledW w))) := Heap.get?_push_size _ rfl
      have hT : Shared.TypeIs { s with heap := s.heap.push (setO #[] 0 (.fresh 0 0 (ledW w))) } (.ref s.heap.objs.size) "set" := ⟨_, hS, rfl⟩
      have x7 := PySem.F.called_set.init.lookup
      have x8 := PySem.F.called_set.init.bind (.ref s.heap.objs.size)
      repeat (any_goals (first | assumption | wp_step))
      refine codeAny_mono (codeAny_call_builtin (R := wants (fun r s2 => r = .none ∧ Q (.ref s.heap.objs.size) s2) E) PySem.F.called_set.init.plain PySem.F.entry_set_init (check_set_init_1 hT ?_)) fun r2 s2 hr2 => ?_
      · refine wpAny_mono (init_exact (A := A.in1.in1) (P := fun s2 => Q (.ref s.heap.objs.size) s2) hh hS (hl.push _) ?_ hi hd hb fun h' tk ep hS' kp => ?_) ?_ fun _ _ e => e
        · obtain ⟨ol, hol, _⟩ := hl
          exact Nat.ne_of_gt (Heap.lt_size hol)
        · exact h h' tk ep hS' fun b o e => kp b o (Nat.ne_of_lt (Heap.lt_size e)) (Heap.get?_push_of_some _ e)
        · rintro fin s' ⟨rfl, q⟩
          exact ⟨rfl, q⟩
      · cases r2 with
        | error e => exact hr2
        | ok f2 =>
          cases f2 with
          | ret r =>
            obtain ⟨rfl, q⟩ := hr2
            repeat (any_goals (first | assumption | wp_step))
          | _ => exact hr2.elim
    | _ => exact hr.elim
end
end L2
namespace L2
open PySem PySem.Spec PyProof.Rows
theorem erase_perm {α : Type} : ∀ (l : List α) (i : Nat) (h : i < l.length), List.Perm (l[i] :: l.eraseIdx i) l
  | a :: l, 0, _ => List.Perm.refl _
  | a :: l, i + 1, h => by
    have := erase_perm l i (by simpa using h)
    rw [List.eraseIdx_cons_succ, List.getElem_cons_succ]
    exact (List.Perm.swap ..).trans (this.cons a)
theorem pick_go {α : Type} (next : Nat → Nat) : ∀ (fuel k : Nat) (left : List α) (out : Array α), fuel = left.length → List.Perm (pickOrder.go next fuel k left out).toList (out.toList ++ left)
  | 0, k, left, out, h => by
    have : left = [] := List.eq_nil_of_length_eq_zero h.symm
    subst this
    simp [pickOrder.go]
  | fuel + 1, k, left, out, h => by
    have hlt : next k % left.length < left.length := Nat.mod_lt _ (by omega)
    unfold pickOrder.go
    rw [List.getElem?_eq_getElem hlt]
    dsimp only
    refine (pick_go next fuel (k + 1) _ _ (by rw [List.length_eraseIdx_of_lt hlt]; omega)).trans ?_
    rw [Array.toList_push, List.append_assoc]
    exact List.Perm.append_left _ (erase_perm left _ hlt)
theorem pick_perm {α : Type} (next : Nat → Nat) (xs : Array α) : List.Perm (pickOrder next xs).toList xs.toList := by
  have := pick_go next xs.size 0 xs.toList #[] (by simp)
  simpa [pickOrder] using this
noncomputable def ordW (w : World) (a : Addr) (ep : Nat) (es : Array (Int × Value)) : Array (Int × Value) := if w.params.followText "set-order" = true then pickOrder (w.params.setOrder a ep) es else es
theorem ordW_perm (w : World) (a : Addr) (ep : Nat) (es : Array (Int × Value)) : List.Perm (ordW w a ep es).toList es.toList := by
  unfold ordW
  split
  · exact pick_perm _ _
  · exact List.Perm.refl _
noncomputable def slotW (w : World) (t : SetTable) (i : Nat) : Nat := if w.params.followText "set-order" = true then 0 else if i = 0 then 0 else t.place.getD (i - 1) 0 + 1
section
variable {prog : Program} {w : World} {A : Around} {E : Value → Shared → Prop} {s : Shared}
theorem next_exact {S : Addr} {es : Array (Int × Value)} {ep i : Nat} {t : SetTable} {Q : Option (Value × Nat) → Shared → Prop} (hS : s.heap.get? S = some (setO es ep t)) (hw : walkT (ledW w) es.size t = true) (hi : i ≤ es.size)
    (h : Q ((ordW w S ep es)[i]?.map fun e => (e.2, slotW w t (i + 1))) s) : wpAny (model prog w) A (setNext S (slotW w t i) i ep) Q E s := by
  simp only [walkT, Bool.and_eq_true, beq_iff_eq, List.all_eq_true, List.mem_range] at hw
  obtain ⟨⟨⟨w1, w2⟩, hf⟩, w3⟩ := hw
  unfold setNext
  refine wpAny_bind (wpAny_setState_of hS rfl hf ?_)
  dsimp only
  unfold setsByText
  refine wpAny_bind (wpAny_bind (wpAny_askSetting (wpAny_pure ?_)))
  show wpAny _ _ (if w.params.followText "set-order" = true then _ else _) _ _ _
  cases ht : w.params.followText "set-order" with
  | true =>
    rw [if_pos rfl, if_neg (by simp)]
    unfold setWalk
    refine wpAny_bind (wpAny_bind (wpAny_setState_of hS rfl hf ?_))
    dsimp only
    unfold setsByText
    refine wpAny_bind (wpAny_bind (wpAny_askSetting (wpAny_pure ?_)))
    show wpAny _ _ (if w.params.followText "set-order" = true then _ else _) _ _ _
    rw [ht, if_pos rfl]
    refine wpAny_bind (wpAny_askSetting (wpAny_pure (wpAny_pure ?_)))
    have e1 : slotW w t i = 0 := by unfold slotW; rw [ht, if_pos rfl]
    have e2 : slotW w t (i + 1) = 0 := by unfold slotW; rw [ht, if_pos rfl]
    have e3 : ordW w S ep es = pickOrder (w.params.setOrder S ep) es := by unfold ordW; rw [ht, if_pos rfl]
    rw [e2, e3] at h
    rw [e1]
    exact h
  | false =>
    rw [if_neg Bool.false_ne_true]
    show wpAny _ _ (if (!t.plain && decide (es.size > 1)) = true then _ else _) _ _ _
    rw [w1, if_neg (by simp)]
    have hled : t.led = true := by rw [w2]; unfold ledW; rw [ht]; rfl
    show wpAny _ _ ((if (!t.led && !es.isEmpty) = true then _ else _) >>= _) _ _ _
    rw [hled, if_neg (by simp)]
    refine wpAny_bind (wpAny_pure (wpAny_pure ?_))
    have e1 : slotW w t i = if i = 0 then 0 else t.place.getD (i - 1) 0 + 1 := by unfold slotW; rw [ht, if_neg Bool.false_ne_true]
    have e2 : slotW w t (i + 1) = t.place.getD i 0 + 1 := by unfold slotW; rw [ht, if_neg Bool.false_ne_true, if_neg (by omega)]; rfl
    have e3 : ordW w S ep es = es := by unfold ordW; rw [ht, if_neg Bool.false_ne_true]
    have hp : t.place.size = es.size := by
      simp only [SetTable.fits, Bool.and_eq_true, beq_iff_eq] at hf
      exact hf.1
    rw [e2, e3] at h
    rw [e1, w3 i (by omega)]
    by_cases hlt : i < es.size
    · have g1 : es[i]? = some es[i] := by simp [hlt]
      have g2 : t.place[i]? = some (t.place[i]'(by omega)) := by simp [hp, hlt]
      rw [g1] at h ⊢
      rw [g2]
      have g3 : t.place.getD i 0 = t.place[i]'(by omega) := by simp [Array.getD, hp, hlt]
      rw [g3] at h
      exact h
    · have g1 : es[i]? = none := by simp; omega
      rw [g1] at h ⊢
      exact h
end
end L2
namespace L2
open PySem PySem.Spec PyProof.Rows
theorem sl_sn : Slot "set_iterator" "__next__" "set_iterator.__next__" := .of (owner := "set_iterator") (n := "__next__") (by rw [typeLookup_type, builtinLookup_eq_fast]; kernel_rfl) (by decide +kernel) (by decide +kernel) (by decide +kernel) (by first | exact .inl (by decide +kernel) | exact .inr (by decide +kernel)) (by rw [isSubtype_type]; kernel_rfl)
theorem en_sn : entryFor table "set_iterator.__next__" = some Builtin.«set_iterator.__next__» := entryFor_of_tree (by kernel_rfl)
theorem ow_si : Manifest.owners.lookup (String.ofList ['r', 'o', 't', 'a', 'r', 'e', 't', 'i', '_', 't', 'e', 's'].reverse) = some Manifest.sig_set_iterator := by kernel_rfl
theorem ar_sn (a : Value) : argsOk "set_iterator.__next__" ⟨[a], []⟩ := by
  unfold argsOk
  rw [signature?_of (id := "set_iterator.__next__") (n := ['_', '_', 't', 'x', 'e', 'n', '_', '_']) (o := ['r', 'o', 't', 'a', 'r', 'e', 't', 'i', '_', 't', 'e', 's']) (by kernel_rfl) ow_si]
  kernel_rfl
theorem sl_ii : Slot "set_iterator" "__iter__" "set_iterator.__iter__" := .of (owner := "set_iterator") (n := "__iter__") (by rw [typeLookup_type, builtinLookup_eq_fast]; kernel_rfl) (by decide +kernel) (by decide +kernel) (by decide +kernel) (by first | exact .inl (by decide +kernel) | exact .inr (by decide +kernel)) (by rw [isSubtype_type]; kernel_rfl)
theorem en_ii : entryFor table "set_iterator.__iter__" = some Builtin.«dict_keyiterator.__iter__» := entryFor_alias (id' := "dict_keyiterator.__iter__") (by kernel_rfl) rfl (by decide +kernel) (by kernel_rfl)
theorem ar_ii (a : Value) : argsOk "set_iterator.__iter__" ⟨[a], []⟩ := by
  unfold argsOk
  rw [signature?_of (id := "set_iterator.__iter__") (n := ['_', '_', 'r', 'e', 't', 'i', '_', '_']) (o := ['r', 'o', 't', 'a', 'r', 'e', 't', 'i', '_', 't', 'e', 's']) (by kernel_rfl) ow_si]
  kernel_rfl
theorem en_si : entryFor table "set.__iter__" = some Builtin.«frozenset.__iter__» := entryFor_alias (id' := "frozenset.__iter__") (by kernel_rfl) rfl (by decide +kernel) (by kernel_rfl)
noncomputable def iterO (f i : Nat) (S : Addr) (n ep : Nat) : Obj := { cls := .type "set_iterator", data := .fields #[.int f 0, .int i 0, .ref S, .int n 0, .int ep 0] }
section
variable {prog : Program} {w : World} {A : Around} {E : Value → Shared → Prop} {s : Shared}
theorem iter_exact {S : Addr} {es : Array (Int × Value)} {ep : Nat} {t : SetTable} {Q : Value → Shared → Prop} (hS : s.heap.get? S = some (setO es ep t)) (hw : walkT (ledW w) es.size t = true)
    (h : Q (.ref s.heap.objs.size) { s with heap := s.heap.push (iterO 0 0 S es.size ep) }) : wpAny (model prog w) A (pyIter (.ref S)) Q E s := by
  have hT : s.TypeIs (.ref S) "set" := ⟨_, hS, rfl⟩
  simp only [walkT, Bool.and_eq_true, beq_iff_eq, List.all_eq_true, List.mem_range] at hw
  obtain ⟨⟨⟨w1, w2⟩, hf⟩, w3⟩ := hw
  refine wpAny_pyIter_slot hT PySem.F.slot_set_iter (wpAny_call_entry PySem.F.slot_set_iter hT en_si ?_ (PySem.F.args_set_iter_1 _))
  unfold Builtin.«frozenset.__iter__»
  refine wpAny_bind (m := Builtin.Frozenset.slot0 _ _) (wpAny_of_eq (a := S) rfl ?_)
  unfold Builtin.Frozenset.sizeOf
  refine wpAny_bind (wpAny_bind (wpAny_setEntries_of hS rfl hf (wpAny_pure ?_)))
  unfold setDrawn
  refine wpAny_bind (wpAny_bind (wpAny_setState_of hS rfl hf ?_))
  dsimp only
  unfold setsByText
  refine wpAny_bind (wpAny_bind (wpAny_askSetting (wpAny_pure ?_)))
  show wpAny _ _ (pure (!w.params.followText "set-order" && (!t.plain && decide (es.size > 1)))) _ _ _
  rw [w1]
  refine wpAny_pure ?_
  rw [if_neg (by simp)]
  refine wpAny_bind (wpAny_pure ?_)
  refine wpAny_bind (wpAny_setEpoch_of hS rfl hf ?_)
  refine wpAny_bind (wpAny_newObj_type (wpAny_pure ⟨_, rfl, "set_iterator", _, ⟨_, Heap.get?_push_size _ rfl, rfl⟩, sl_sn.lookup, ?_⟩))
  exact h
theorem snext_exact {I S : Addr} {es : Array (Int × Value)} {ep i : Nat} {t : SetTable} {Q : Option Value → Shared → Prop} (hI : s.heap.get? I = some (iterO (slotW w t i) i S es.size ep)) (hS : s.heap.get? S = some (setO es ep t)) (hw : walkT (ledW w) es.size t = true) {e : Int × Value} (he : (ordW w S ep es)[i]? = some e)
    (h : ∀ h', Heap.SameBut I s.heap h' → h'.get? I = some (iterO (slotW w t (i + 1)) (i + 1) S es.size ep) → Q (some e.2) { s with heap := h' }) : wpAny (model prog w) A (pyNext (.ref I)) Q E s := by
  have hT : s.TypeIs (.ref I) "set_iterator" := ⟨_, hI, rfl⟩
  have hil : i < es.size := by
    have h1 := (Array.getElem?_eq_some_iff.mp he).1
    have h2 := (ordW_perm w S ep es).length_eq
    simp only [Array.length_toList] at h2
    omega
  unfold pyNext
  refine wpAny_bind (wpAny_attempt (wpAny_callSpecial?_slot (name := Str.ofString "__next__") hT sl_sn (wpAny_call_entry sl_sn hT en_sn ?_ (ar_sn _))))
  unfold Builtin.«set_iterator.__next__»
  refine wpAny_bind (wpAny_pure ?_)
  refine wpAny_bind (wpAny_fieldsOf hI rfl ?_)
  have hf : t.fits es.size = true := by
    simp only [walkT, Bool.and_eq_true] at hw
    exact hw.1.2
  show wpAny _ _ (setEntries S >>= _) _ _ _
  refine wpAny_bind (wpAny_setEntries_of hS rfl hf ?_)
  rw [if_neg (by simp)]
  show wpAny _ _ (setNext S ((slotW w t i : Nat) : Int).toNat ((i : Nat) : Int).toNat ((ep : Nat) : Int).toNat >>= _) _ _ _
  simp only [Int.toNat_natCast]
  refine wpAny_bind (next_exact hS hw (Nat.le_of_lt hil) ?_)
  rw [he]
  show wpAny _ _ (setField (.ref I) 0 (rawInt (slotW w t (i + 1) : Nat)) >>= _) _ _ _
  refine wpAny_bind (wpAny_setField hI rfl (by simp) ?_)
  have g1 := Heap.get?_update_self (Obj.mapFields (·.setIfInBounds 0 (rawInt (slotW w t (i + 1) : Nat)))) hI rfl
  refine wpAny_bind (wpAny_setField g1 rfl (by simp) ?_)
  have g2 := Heap.get?_update_self (Obj.mapFields (·.setIfInBounds 1 (rawInt ((i : Int) + 1)))) g1 rfl
  exact wpAny_pure ⟨_, rfl, wpAny_pure (h _ ((Heap.SameBut.update ..).trans (Heap.SameBut.update ..)) g2)⟩
theorem send_exact {I S : Addr} {es : Array (Int × Value)} {ep : Nat} {t : SetTable} {Q : Option Value → Shared → Prop} (hh : A.handled = none) (hI : s.heap.get? I = some (iterO (slotW w t es.size) es.size S es.size ep)) (hS : s.heap.get? S = some (setO es ep t)) (hw : walkT (ledW w) es.size t = true)
    (h : ∀ h', Heap.ExtBut I s.heap h' → Q none { s with heap := h' }) : wpAny (model prog w) A (pyNext (.ref I)) Q E s := by
  have hT : s.TypeIs (.ref I) "set_iterator" := ⟨_, hI, rfl⟩
  have hn : (ordW w S ep es)[es.size]? = none := by
    have h2 := (ordW_perm w S ep es).length_eq
    simp only [Array.length_toList] at h2
    simp; omega
  unfold pyNext
  refine wpAny_bind (wpAny_attempt (wpAny_callSpecial?_slot (name := Str.ofString "__next__") hT sl_sn (wpAny_call_entry sl_sn hT en_sn ?_ (ar_sn _))))
  unfold Builtin.«set_iterator.__next__»
  refine wpAny_bind (wpAny_pure ?_)
  refine wpAny_bind (wpAny_fieldsOf hI rfl ?_)
  have hf : t.fits es.size = true := by
    simp only [walkT, Bool.and_eq_true] at hw
    exact hw.1.2
  show wpAny _ _ (setEntries S >>= _) _ _ _
  refine wpAny_bind (wpAny_setEntries_of hS rfl hf ?_)
  rw [if_neg (by simp)]
  show wpAny _ _ (setNext S ((slotW w t es.size : Nat) : Int).toNat ((es.size : Nat) : Int).toNat ((ep : Nat) : Int).toNat >>= _) _ _ _
  simp only [Int.toNat_natCast]
  refine wpAny_bind (next_exact hS hw (Nat.le_refl _) ?_)
  rw [hn]
  show wpAny _ _ (setField (.ref I) 2 .none >>= _) _ _ _
  refine wpAny_bind (wpAny_setField hI rfl (by simp) ?_)
  refine wpAny_bind ?_
  simp only [newExc, newTuple]
  refine wpAny_bind (wpAny_newObj_type ?_ (by size_fits))
  refine wpAny_bind (m := firstArgMember _ _) (wpAny_of_eq (a := Value.none) (by first | rfl | (simp only [firstArgMember]; rfl)) ?_)
  refine wpAny_newObj_type ?_ (by size_fits)
  simp only [raiseNew]
  refine wpAny_bind (wpAny_handled ?_)
  rw [show A.in1.handled = none from hh]
  refine wpAny_bind (wpAny_pure (wpAny_throw ?_))
  refine wpAny_bind (wpAny_isInstance (T := "StopIteration") (b := true) ⟨_, Heap.get?_push_size _ rfl, rfl⟩ isSubtype_stop ?_)
  exact wpAny_pure (h _ (((Heap.SameBut.update ..).extBut.push _).push _))
theorem self_exact {I S : Addr} {f i n ep : Nat} {Q : Value → Shared → Prop} (hI : s.heap.get? I = some (iterO f i S n ep)) (h : Q (.ref I) s) : wpAny (model prog w) A (pyIter (.ref I)) Q E s := by
  have hT : s.TypeIs (.ref I) "set_iterator" := ⟨_, hI, rfl⟩
  refine wpAny_pyIter_slot hT sl_ii (wpAny_call_entry sl_ii hT en_ii ?_ (ar_ii _))
  show wpAny _ _ (ret (.ref I)) _ _ s
  exact wpAny_pure ⟨_, rfl, "set_iterator", _, hT, sl_sn.lookup, h⟩
theorem walk_exact (hh : A.handled = none) (I S : Addr) (hne : S ≠ I) (es : Array (Int × Value)) (ep : Nat) (t : SetTable) (hw : walkT (ledW w) es.size t = true) :
    Walks prog w A I [I, S] [I] es.size (fun i v => (ordW w S ep es)[i]?.map (·.2) = some v) (fun i h => h.get? I = some (iterO (slotW w t i) i S es.size ep) ∧ h.get? S = some (setO es ep t)) where
  sub := fun b hb => by rw [List.mem_singleton.mp hb]; exact List.mem_cons_self
  frame := fun _ _ _ st k => ⟨k I List.mem_cons_self _ st.1, k S (List.mem_cons_of_mem _ List.mem_cons_self) _ st.2⟩
  item := fun i s Q E hi st k => by
    have hl : i < (ordW w S ep es).size := by
      have h2 := (ordW_perm w S ep es).length_eq
      simp only [Array.length_toList] at h2
      omega
    have he : (ordW w S ep es)[i]? = some (ordW w S ep es)[i] := by simp [hl]
    refine snext_exact st.1 st.2 hw he fun h' sb g => ?_
    exact k _ h' s.toks (by rw [he]; rfl) ⟨g, sb.extBut S _ hne st.2⟩ fun b o hb e => sb.extBut b o (fun z => hb (List.mem_singleton.mpr z)) e
  done := fun s Q E st k => send_exact hh st.1 st.2 hw fun h' x => k h' s.toks fun b o hb e => x b o (fun z => hb (List.mem_singleton.mpr z)) e
  self := fun i s Q E st q => self_exact st.1 q
end
end L2
namespace L2
open PySem PySem.Spec PyProof.Rows
section
variable {prog : Program} {w : World} {A : Around} {E : Value → Shared → Prop} {s : Shared}
theorem wp_pos {M : Model} {α : Type} {c : Prop} [Decidable c] {a b : Sem α} {Q : α → Shared → Prop} (h : c) (k : wpAny M A a Q E s) : wpAny M A (if c then a else b) Q E s := by
  rw [if_pos h]; exact k
theorem wp_neg {M : Model} {α : Type} {c : Prop} [Decidable c] {a b : Sem α} {Q : α → Shared → Prop} (h : ¬ c) (k : wpAny M A b Q E s) : wpAny M A (if c then a else b) Q E s := by
  rw [if_neg h]; exact k
theorem collect_set {S : Addr} {es : Array (Int × Value)} {ep : Nat} {t : SetTable} {Q : List Value → Shared → Prop} (hh : A.handled = none) (hS : s.heap.get? S = some (setO es ep t)) (hw : walkT (ledW w) es.size t = true) (hz : es.size ≤ 100)
    (h : ∀ (h' : Heap) (tk : Nat) (acc : Array Value), (∀ b o, s.heap.get? b = some o → h'.get? b = some o) → acc.toList = (ordW w S ep es).toList.map (·.2) → s.heap.objs.size < h'.objs.size → Q acc.toList { s with heap := h', toks := tk }) : wpAny (model prog w) A (collect (.ref S)) Q E s := by
  have hSt : S < s.heap.objs.size := Heap.lt_size hS
  unfold collect
  refine wpAny_bind (wpAny_runValue (codeAny_builtin PySem.F.entry_proto_collect ?_))
  rw [Around.under_plainId PySem.F.plain_proto_collect _]
  show wpAny _ A.in1 (newList [] >>= fun l => again (.builtin "list.__iadd__" ⟨[l, .ref S], []⟩)) _ _ s
  refine wpAny_bind (wpAny_newObj_type (wpAny_pure ⟨plainId_quiet PySem.F.plain_list_iadd _, codeAny_builtin PySem.F.entry_list_iadd ?_⟩))
  rw [Around.under_plainId PySem.F.plain_list_iadd _]
  generalize hH1 : s.heap.push { cls := .type "list", dict := none, data := .seq ([] : List Value).toArray } = H1
  have hD : H1.get? s.heap.objs.size = some { cls := .type "list", dict := none, data := .seq ([] : List Value).toArray } := by rw [← hH1]; exact Heap.get?_push_size _ rfl
  have old1 : ∀ b o, s.heap.get? b = some o → H1.get? b = some o := fun b o e => by rw [← hH1]; exact Heap.get?_push_of_some _ e
  have hz1 : H1.objs.size = s.heap.objs.size + 1 := by rw [← hH1, Heap.size_push]
  have n1 : Builtin.List.listSameRef (.ref s.heap.objs.size) (.ref S) = false := by simp [Builtin.List.listSameRef]; exact Nat.ne_of_gt hSt
  show wpAny _ A.in1 (Builtin.List.listExtendWith (.ref s.heap.objs.size) (.ref S) (.ref s.heap.objs.size)) _ _ _
  unfold Builtin.List.listExtendWith
  have hT1 : Shared.TypeIs { s with heap := H1 } (.ref S) "set" := ⟨_, old1 _ _ hS, rfl⟩
  refine wpAny_bind (wpAny_typeOf hT1 ?_)
  rw [if_neg (by rw [n1]; decide)]
  refine wpAny_bind (iter_exact (s := { s with heap := H1 }) (old1 _ _ hS) hw ?_)
  refine wpAny_bind (wpAny_holding ?_)
  generalize hH2 : H1.push (iterO 0 0 S es.size ep) = H2
  have old2 : ∀ b o, H1.get? b = some o → H2.get? b = some o := fun b o e => by rw [← hH2]; exact Heap.get?_push_of_some _ e
  have hI : H2.get? H1.objs.size = some (iterO 0 0 S es.size ep) := by rw [← hH2]; exact Heap.get?_push_size _ rfl
  have hT2 : Shared.TypeIs { s with heap := H2 } (.ref S) "set" := ⟨_, old2 _ _ (old1 _ _ hS), rfl⟩
  unfold Builtin.List.listLengthHint
  refine wpAny_bind (wpAny_specialOf hT2 PySem.F.slot_set_len.lookup ?_)
  have hsp : splitId "set.__len__" = some ("set", "__len__") := by decide +kernel
  simp only [hsp]
  refine wpAny_bind (wpAny_isInstance (b := true) hT2 sub_set_self ?_)
  refine wp_neg (by decide) (wp_pos (by decide +kernel) (wpAny_bind (wpAny_typeOf hT2 (wpAny_pure ?_))))
  refine wp_pos (by decide +kernel) (wpAny_bind (wpAny_rule (wpAny_bind ?_)))
  show wpAny _ A.in1 (updateSeq s.heap.objs.size (·.push .none) >>= fun _ => updateSeq s.heap.objs.size (·.pop)) _ _ _
  have hD2 := old2 _ _ hD
  refine wpAny_bind (wpAny_updateSeq hD2 rfl ?_)
  have hD3 := Heap.get?_update_self (Obj.mapSeq (·.push Value.none)) hD2 rfl
  refine wpAny_updateSeq (hz := by seq_fits) hD3 rfl ?_
  have hD4 := Heap.get?_update_self (Obj.mapSeq (·.pop)) hD3 rfl
  generalize hH4 : (H2.update s.heap.objs.size (Obj.mapSeq (·.push Value.none))).update s.heap.objs.size (Obj.mapSeq (·.pop)) = H4 at hD4
  have old4 : ∀ b o, b ≠ s.heap.objs.size → H2.get? b = some o → H4.get? b = some o := fun b o hb e => by
    rw [← hH4]
    exact (Heap.get?_update_other _ _ (Ne.symm hb)).trans ((Heap.get?_update_other _ _ (Ne.symm hb)).trans e)
  have hne : S ≠ H1.objs.size := by rw [hz1]; exact Nat.ne_of_lt (Nat.lt_succ_of_lt hSt)
  have hID : H1.objs.size ≠ s.heap.objs.size := by rw [hz1]; exact Nat.succ_ne_self _
  have hI4 := old4 _ _ hID hI
  have hS4 := old4 _ _ (Nat.ne_of_lt hSt) (old2 _ _ (old1 _ _ hS))
  have s0 : slotW w t 0 = 0 := by unfold slotW; split <;> rfl
  have hIs : H4.get? H1.objs.size = some (iterO (slotW w t 0) 0 S es.size ep) := by rw [s0]; exact hI4
  have hDf : s.heap.objs.size ∉ [H1.objs.size, S] := by
    simp only [List.mem_cons, List.not_mem_nil, or_false, not_or]
    exact ⟨Ne.symm hID, Nat.ne_of_gt hSt⟩
  have hzz : es.size ≤ sizeLine := Nat.le_trans hz (by decide)
  refine wpAny_pure ⟨plainId_quiet PySem.F.plain_extend_loop _, codeAny_extend_loopS (walk_exact (A := A.in1) hh H1.objs.size S hne es ep t hw).toS hzz _ hDf _ es.size 0 _ _ _ rfl (Nat.zero_le _) ⟨hIs, hS4⟩ hD4 (ItemsOf.nil _) fun s' acc c' hm hD' hacc => ?_⟩
  show wpAny _ A (load s.heap.objs.size >>= _) _ _ s'
  refine wpAny_bind (wpAny_load hD' ?_)
  obtain ⟨h', g', d', tk', os'⟩ := s'
  have eg : g' = s.gens := hm.gens
  have ed : d' = s.drawn := hm.drawn
  have eo : os' = s.os := hm.os
  subst eg; subst ed; subst eo
  refine wpAny_pure (h h' tk' acc (fun b o e => ?_) ?_ (Heap.lt_size hD'))
  · have hb := Heap.lt_size e
    refine hm.heap b o ?_ (old4 b o (Nat.ne_of_lt hb) (old2 _ _ (old1 _ _ e)))
    simp only [List.mem_cons, List.not_mem_nil, or_false, not_or]
    exact ⟨Nat.ne_of_lt hb, by rw [hz1]; exact Nat.ne_of_lt (Nat.lt_succ_of_lt hb)⟩
  · refine List.ext_getElem? fun i => ?_
    have h2 := (ordW_perm w S ep es).length_eq
    simp only [Array.length_toList] at h2
    rw [Array.getElem?_toList, List.getElem?_map, Array.getElem?_toList]
    by_cases hi : i < es.size
    · have hx : acc[i]? = some (acc[i]'(by rw [hacc.1]; exact hi)) := by simp [hacc.1, hi]
      rw [hacc.2 i _ hx, hx]
    · rw [Array.getElem?_eq_none (by rw [hacc.1]; omega), Array.getElem?_eq_none (by omega)]
      rfl
end
end L2
namespace L2
open PySem PySem.Spec PyProof.Rows
theorem elE_snd (v : Value) : (elE v).2 = v := by cases v <;> rfl
theorem elE_un {vs : List Value} {ns : List Int} (h : IntsAre vs ns) : (vs.map elE).map unV = ns.map keyE := by
  induction h with
  | nil => rfl
  | cons n t _ ih => rw [List.map_cons, List.map_cons, List.map_cons, ih]; rfl
section
variable {prog : Program} {w : World} {A : Around} {E : Value → Shared → Prop} {s : Shared}
theorem sorted_set {S : Addr} {es : Array (Int × Value)} {ep : Nat} {t : SetTable} {Q : Value → Shared → Prop} (hh : A.handled = none) (hS : s.heap.get? S = some (setO es ep t)) (hw : walkT (ledW w) es.size t = true) (hz : es.size ≤ 60) (hI : ∀ e ∈ es.toList, ∃ k u, e.2 = .int k u)
    (h : ∀ (h' : Heap) (tk : Nat) (l : Addr) (out : Array Value) (ns' : List Int) (e : Nat), s.heap.objs.size ≤ l → (∀ b o, s.heap.get? b = some o → h'.get? b = some o) → h'.get? l = some (seqObj "list" out e) → IntsAre out.toList ns' → ns'.Perm (es.toList.map fun e => numOf e.2) → ns'.Pairwise (· ≤ ·) → Q (.ref l) { s with heap := h', toks := tk }) :
    wpAny (model prog w) A (call (.builtin "sorted") [.ref S]) Q E s := by
  refine Calls.call_function_entry kind_sorted plain_sorted entry_sorted (args_sorted1 _) ?_
  unfold Builtin.«sorted»
  refine wpAny_bind (m := checkCount "sorted" 1 1 _) (wpAny_pure ?_)
  refine wpAny_bind (collect_set hh hS hw (by omega) fun h1 tk acc kp ha hsz => ?_)
  have hp : List.Perm acc.toList (es.toList.map (·.2)) := by rw [ha]; exact (ordW_perm w S ep es).map _
  have hN : ∀ v ∈ acc.toList, ∃ n t, v = .int n t := fun v hv => by
    obtain ⟨e, he, rfl⟩ := List.mem_map.mp (hp.mem_iff.mp hv)
    exact hI e he
  have hIA := intsAre_map acc.toList hN
  have hlen : acc.toList.length ≤ 60 := by rw [hp.length_eq, List.length_map, Array.length_toList]; exact hz
  refine wpAny_bind (wpAny_newList ?_)
  have hoL : (h1.push (seqObj "list" acc.toList.toArray 0)).get? h1.objs.size = some (seqObj "list" acc.toList.toArray 0) := Heap.get?_push_size _ rfl
  refine wpAny_bind (wpAny_holding (wpAny_call_entry slot_list_sort (s := { s with heap := h1.push (seqObj "list" acc.toList.toArray 0), toks := tk }) ⟨_, hoL, rfl⟩ entry_list_sort (list_sort_tree hoL hIA (by omega) fun out ns' a1 a2 a3 => ⟨_, rfl, ?_⟩) (args_list_sort _)))
  obtain ⟨e, hg⟩ := sortedHeap_at (out := out) hoL
  refine wpAny_pure ⟨_, rfl, h _ tk _ out ns' e ?_ ?_ hg a1 ?_ a3⟩
  · exact Nat.le_of_lt hsz
  · intro b o hb
    have hb1 := kp b o hb
    have hlt := Heap.lt_size hb1
    rw [sortedHeap_old (Nat.ne_of_lt hlt) (by rw [Heap.size_push]; exact Nat.lt_succ_of_lt hlt)]
    exact Heap.get?_push_of_some _ hb1
  · refine a2.trans ((hp.map numOf).trans ?_)
    rw [List.map_map]
    exact List.Perm.refl _
end
theorem bt_srtd : bootBuiltins "sorted" = some (.builtin "sorted") := by decide +kernel
theorem bt_sett : bootBuiltins "set" = some (.type "set") := by decide +kernel
theorem walk_keys (w : World) {vs : List Value} {ks : List Int} (hI : IntsAre vs ks) (h1 : ks.Pairwise (· < ·)) (h2 : ∀ k ∈ ks, 0 ≤ k ∧ k < 9) (h3 : ks.length ≤ 5) : walkT (ledW w) (layAll (ledW w) (vs.map elE)).1.size (layAll (ledW w) (vs.map elE)).2 = true := by
  have hm := mem_subs 9 0 ks h1 (fun k hk => by have := h2 k hk; omega)
  have ha := List.all_eq_true.mp walkT_all ks hm
  have hu := layAll_un (ledW w) (vs.map elE)
  rw [elE_un hI] at hu
  have hsz : (layAll (ledW w) (vs.map elE)).1.size = ks.length := by
    have := (layAll_perm (ledW w) (vs.map elE)).length_eq
    rw [Array.length_toList, List.length_map] at this
    rw [this]; exact hI.length
  have ht : (layAll (ledW w) (vs.map elE)).2 = (layAll (ledW w) (ks.map keyE)).2 := by rw [hu]
  rw [hsz, ht]
  rw [Bool.or_eq_true, Bool.and_eq_true] at ha
  rcases ha with ha | ha
  · exact absurd (of_decide_eq_true ha) (by omega)
  · cases ledW w
    · exact ha.2
    · exact ha.1
section
variable {X : Cx} {L : List Str} {sc : Scope}
noncomputable def tSS (K : PySem.W.Frag) (te : TE) : TE := fun σ H Q => tCons te tNil σ H fun vs H1 => ∃ (p : Addr) (ks : List Int), vs = [.ref p] ∧ SqL K H1 p (ks.map V.int) ∧ ks.Pairwise (· < ·) ∧ (∀ k ∈ ks, 0 ≤ k ∧ k < 9) ∧ ks.length ≤ 5 ∧ ∀ l, H1 l = none → Q (.ref l) (upd H1 l (.lst (ks.map V.int)))
theorem sSt {i j : Nat} {e : Expr} {te : TE} {p1 p2 pos pos2 : Pos} (G : Gs L sc) (hm : X.mg "sorted" = none) (hms : X.mg "set" = none) (he : PE X e te) (hca : X.calm = true := by rfl) (hL : L[i]? = some "sorted" := by rfl) (hL2 : L[j]? = some "set" := by rfl) (h2 : X.env.scope = sc := by rfl)
    (hs : starEach [e] X.env = [(false, eval e X.env)] := by rfl) (hs3 : starEach [.Call (.Name "set" p2) [e] [] pos2] X.env = [(false, eval (.Call (.Name "set" p2) [e] [] pos2) X.env)] := by rfl) :
    PE X (.Call (.Name "sorted" p1) [.Call (.Name "set" p2) [e] [] pos2] [] pos) (tSS X.K te) := by
  have ha : PA X [e] (tCons te tNil) := pa_cons he pa_nil hs
  constructor
  intro pins s σ H Q I h
  refine Call_ (ld_blt I (glX G hL h2) hm bt_srtd (PyProof.Rows.callWith_builtin1 ?_ hs3 rfl))
  rw [hs3]
  show wpAny _ _ (spliced ((false, eval (.Call (.Name "set" p2) [e] [] pos2) X.env) :: backTo pos [])) _ _ s
  refine Calls.spliced_cons (Call_ (ld_blt I (glX G hL2 h2) hms bt_sett (PyProof.Rows.callWith_type1 (thn (ha pos2 pins s σ H _ I h) fun us s1 ⟨vs, H1, I1, r1, q1⟩ => ?_) hs rfl)))
  obtain ⟨p, ks, e1, hq, k1, k2, k3, q⟩ := q1
  subst e1
  obtain ⟨u, rfl, rx⟩ := vals1 r1
  cases rx
  obtain ⟨its, rv, pl, hz⟩ := I1.list hq
  have hIA := ints_are rv
  have hil : its.length = ks.length := hIA.length
  have hd : X.A.handled = none := I1.ok.hd hca
  have hsb : its.toArray.size + 1 < scanBound := by
    have : scanBound = 4096 := rfl
    rw [List.size_toArray, hil, this]; omega
  refine call_set_exact hd pl.isList (by simpa using hIA) k1 hsb fun h1 tk ep hS kp => Calls.spliced_nil ?_
  have hw := walk_keys X.w hIA k1 k2 k3
  have hsz : (layAll (ledW X.w) (its.map elE)).1.size ≤ 5 := by
    have := (layAll_perm (ledW X.w) (its.map elE)).length_eq
    rw [Array.length_toList, List.length_map] at this
    omega
  refine sorted_set (s := { s1 with heap := h1, toks := tk }) hd hS hw (Nat.le_trans hsz (by decide)) (fun e he => ?_) fun h' tk' l out ns' ep' hl kp' hg hI' hp hsrt => ?_
  · have hmem := (layAll_perm (ledW X.w) (its.map elE)).mem_iff.mp he
    obtain ⟨v, hv, rfl⟩ := List.mem_map.mp hmem
    obtain ⟨j, hj⟩ := List.mem_iff_getElem?.mp hv
    obtain ⟨t, et⟩ := hIA.int_at j v hj
    exact ⟨_, t, by rw [elE_snd]; exact et⟩
  · have hpk : ns'.Perm ks := by
      refine hp.trans (((layAll_perm (ledW X.w) (its.map elE)).map fun e => numOf e.2).trans ?_)
      rw [List.map_map]
      have e2 : ((fun e : Int × Value => numOf e.2) ∘ elE) = numOf := funext fun v => by show numOf (elE v).2 = _; rw [elE_snd]
      rw [e2, hIA.nums]
    have ens : ns' = ks := hpk.eq_of_pairwise (fun _ _ _ _ a b => Int.le_antisymm a b) hsrt (k1.imp fun h => Int.le_of_lt h)
    subst ens
    have hlt : s1.heap.objs.size ≤ l := Nat.le_trans (Nat.le_of_lt (Heap.lt_size hS)) hl
    have hzl : ns'.length ≤ sizeLine := Nat.le_trans k3 (by decide)
    exact ⟨.ref _, _, I1.laid (t' := tk') (o := .lst (ns'.map V.int)) (fun b o z => kp' b o (kp b o z)) hlt ⟨by rw [List.length_map]; exact hzl, out.toList, ep', vals_of_ints hI', hg⟩, rfl, q _ (I1.hok.fresh hlt)⟩
end
end L2
set_option Elab.async false
set_option linter.all false
set_option maxRecDepth 100000
set_option exponentiation.threshold 5000
namespace SC
open PySem L2 PyProof.Rows
inductive CN where
  | StrewError | BadRule | BadKey | BadSize | Full | TooMany | Row | Growing
noncomputable def wholeV (v : V) (lo hi : Int) : Bool := match v with | .int i => decide (lo ≤ i) && decide (i ≤ hi) | _ => false
theorem wholeV_int {i lo hi : Int} (h1 : lo ≤ i) (h2 : i ≤ hi) : wholeV (.int i) lo hi = true := by simp [wholeV, h1, h2]
noncomputable def spWhole : Sp := fun vs H Q _ => ∃ x lo hi T, vs = [x, .int lo, .int hi] ∧ Kn H x T ∧ Q (.bl (wholeV x lo hi)) H
noncomputable def spCheckKey (cK : Addr) : Sp := fun vs H Q E => ∃ v T, vs = [v] ∧ Kn H v T ∧ if wholeV v 0 999999 = true then Q .non H else E (.ref cK) none H
noncomputable def spCheckSize (cZ : Addr) : Sp := fun vs H Q E => ∃ v T, vs = [v] ∧ Kn H v T ∧ if wholeV v 2 64 = true then Q .non H else E (.ref cZ) none H
noncomputable def spCheckCount (cZ : Addr) : Sp := fun vs H Q E => ∃ v lo hi T, vs = [v, .int lo, .int hi] ∧ Kn H v T ∧ if wholeV v lo hi = true then Q .non H else E (.ref cZ) none H
noncomputable def spPow : Sp := fun vs H Q _ => ∃ b e : Int, vs = [.int b, .int e] ∧ (0 ≤ b ∧ b < 2 ^ 64) ∧ (0 ≤ e ∧ e ≤ 1000) ∧ Q (.int (b ^ e.toNat)) H
theorem divC {i j : Int} (h : 0 < j) (h2 : j ≤ 2 ^ 64) : CDivA i j := ⟨h, Int.lt_of_le_of_lt h2 (by decide)⟩
theorem mulC {i j : Int} (h1 : 0 ≤ j) (h2 : j < 2 ^ 64) : CMulA i j := .inl (.inr ⟨by omega, h2⟩)
theorem posJ {j : Int} (h : 0 < j) : 0 < j := h
theorem bigM (x : Int) : (x % 340282366920938463463374607431768211507).natAbs < 2 ^ 1000 := by
  have h0 := Int.emod_nonneg x (b := 340282366920938463463374607431768211507) (by decide)
  have h1 := Int.emod_lt_of_pos x (b := 340282366920938463463374607431768211507) (by decide)
  generalize x % 340282366920938463463374607431768211507 = m at h0 h1
  exact Nat.lt_of_lt_of_le (show m.natAbs < 340282366920938463463374607431768211507 by omega) (by decide)
theorem mulM (x : Int) : CMulA (x % 340282366920938463463374607431768211507) (x % 340282366920938463463374607431768211507) := .inr ⟨bigM x, bigM x⟩
theorem atI_mem {xs : List V} {i : Int} (h0 : 0 ≤ i) (h1 : i < xs.length) : ∃ v, atI xs i = some v ∧ v ∈ xs := by
  have h2 : i.toNat < xs.length := by omega
  have e : ((i.toNat : Nat) : Int) = i := by omega
  refine ⟨xs[i.toNat], ?_, List.getElem_mem h2⟩
  have := atI_nat (xs := xs) (j := i.toNat) (v := xs[i.toNat]) (by simp [h2])
  rw [e] at this
  exact this
theorem pick {xs : List V} (m n : Int) (h : n = xs.length) (hn : 0 < n) : ∃ v, atI xs (m % n) = some v ∧ v ∈ xs :=
  atI_mem (Int.emod_nonneg _ (by omega)) (by rw [← h]; exact Int.emod_lt_of_pos _ hn)
noncomputable def spCell (K : PySem.W.Frag) : Sp := fun vs H Q _ => ∃ p ns k, vs = [.ref p, .int k] ∧ SqL K H p (List.map V.int ns) ∧ ns.length ≤ 63 ∧ (0 ≤ k ∧ k < 64) ∧ ∀ c H', Same H H' → Q (.int c) H'
noncomputable def spDrawn : Sp := fun vs H Q _ => ∃ c k, vs = [.int c, .int k] ∧ ∀ m, 0 ≤ m → m < 2 ^ 128 → Q (.int m) H
theorem flat_ints (ns : List Int) : (ns.map V.int).all flatV = true := by
  rw [List.all_map]
  exact List.all_eq_true.mpr fun _ _ => rfl
theorem seq_cut {t u : TS} {D : Ends} {σ : L2.St} {H : Hp} (Post : L2.St → Hp → Prop) (h1 : ∀ U : L2.St → Hp → Prop, (∀ σ' H', Post σ' H' → U σ' H') → t { D with nx := U } σ H) (h2 : ∀ σ' H', Post σ' H' → u D σ' H') : tSeq t u D σ H := h1 _ h2
noncomputable def spLaw (K : PySem.W.Frag) : Sp := fun vs H Q _ => ∃ (a : Addr) (ns : List Int), vs = [.ref a] ∧ SqL K H a (ns.map V.int) ∧ ns.length ≤ 63 ∧ ∀ H', Q (.bl true) H'
theorem bt_sorted : bootBuiltins "sorted" = some (.builtin "sorted") := by decide +kernel
noncomputable def PairAt (H : Hp) (v : V) (a : Nat × Nat) : Prop := ∃ p, v = .ref p ∧ H p = some (.tup [.int a.1, .int a.2])
theorem ln1 {P : List Value → Prop} (h : ∀ a0, P [a0]) : ∀ us : List Value, us.length = 1 → P us
  | [a0], _ => h a0
theorem ln2 {P : List Value → Prop} (h : ∀ a0 a1, P [a0, a1]) : ∀ us : List Value, us.length = 2 → P us
  | [a0, a1], _ => h a0 a1
theorem ln3 {P : List Value → Prop} (h : ∀ a0 a1 a2, P [a0, a1, a2]) : ∀ us : List Value, us.length = 3 → P us
  | [a0, a1, a2], _ => h a0 a1 a2
theorem ln4 {P : List Value → Prop} (h : ∀ a0 a1 a2 a3, P [a0, a1, a2, a3]) : ∀ us : List Value, us.length = 4 → P us
  | [a0, a1, a2, a3], _ => h a0 a1 a2 a3
end SC
set_option Elab.async false
set_option linter.all false
set_option maxRecDepth 100000
set_option exponentiation.threshold 5000
namespace SC
open PySem L2 PyProof.Rows
structure Wd (K : PySem.W.Frag) (cl : CN → Addr) (C : Addr) (j : Nat) : Prop where
  k : ExcK K C
  e : PySem.W.exmOne K (.ref C) (.ref (cl .StrewError)) = some true
  f0 : PySem.W.kitOne K (.ref C) (.ref (cl .BadRule)) = some (j == 0)
  f1 : PySem.W.kitOne K (.ref C) (.ref (cl .BadKey)) = some (j == 1)
  f2 : PySem.W.kitOne K (.ref C) (.ref (cl .BadSize)) = some (j == 2)
  f3 : PySem.W.kitOne K (.ref C) (.ref (cl .Full)) = some (j == 3)
  f4 : PySem.W.kitOne K (.ref C) (.ref (cl .TooMany)) = some (j == 4)
  v : PySem.W.kitOne K (.ref C) (.type "ValueError") = some true
theorem markR {k : Nat} {A : Around} {x : Option Value} (r : Room k A) : Room k (A.mark x) := ⟨r.dp, r.un⟩
theorem ixN_nat {n j : Nat} (h : j < n) : ixN n (j : Int) = some j := by
  unfold ixN
  rw [if_pos (by omega), if_pos (by omega), Int.toNat_natCast]
noncomputable def nm (j : Nat) : Str := ["BadRule", "BadKey", "BadSize", "Full", "TooMany"].getD j ""
theorem kc {K : PySem.W.Frag} {C c : Addr} {b : Bool} (h : PySem.W.kitOne K (.ref C) (.ref c) = some b) : ∀ u, RelV (.ref c) u → PySem.W.kitOne K (.ref C) u = some b := fun u e => by cases e; exact h
theorem kty {K : PySem.W.Frag} {C : Addr} {n : String} {b : Bool} (h : PySem.W.kitOne K (.ref C) (.type n) = some b) : ∀ u, RelV (.ty n) u → PySem.W.kitOne K (.ref C) u = some b := fun u e => by cases e; exact h
noncomputable def flagI : V → V
  | .bl b => .int (if b then 1 else 0)
  | _ => .non
noncomputable def spWord (K : PySem.W.Frag) (cl : CN → Addr) : Sp := fun vs H Q _ => ∃ a o C j, vs = [.ref a] ∧ H a = some (frzE o) ∧ ExcObj C o ∧ Wd K cl C j ∧ j < 5 ∧ ∀ H', Same H H' → Q (.str (nm j)) H'
theorem j5 {j : Nat} (h : j < 5) : j = 0 ∨ j = 1 ∨ j = 2 ∨ j = 3 ∨ j = 4 := by omega
theorem iteY {c A B : Prop} [Decidable c] (hc : c) (h : A) : if c then A else B := by rw [if_pos hc]; exact h
theorem iteN {c A B : Prop} [Decidable c] (hc : ¬ c) (h : B) : if c then A else B := by rw [if_neg hc]; exact h
theorem rngN (L n : Int) (h : 0 ≤ L) (hn : 1 ≤ n) : 1 ≤ (if (if L < n then L else n) > 1 then (if L < n then L else n) else 1) ∧ (if (if L < n then L else n) > 1 then (if L < n then L else n) else 1) ≤ n := by
  split <;> split <;> omega
end SC
namespace SC
open PySem L2 PyProof.Rows
noncomputable def spNext : Sp := fun vs H Q _ => ∃ p s : Int, vs = [.int p, .int s] ∧ 0 < s ∧ Q (.int ((p + 1) % s)) H
noncomputable def spWayOn : Sp := fun vs H Q _ => ∃ a p s : Int, vs = [.int a, .int p, .int s] ∧ 0 < s ∧ Q (.int ((p - a) % s)) H
noncomputable def nats (l : List Nat) : List V := l.map fun (x : Nat) => V.int (x : Int)
theorem nats_at {l : List Nat} {i : Nat} {x : V} (h : (nats l)[i]? = some x) : ∃ n, l[i]? = some n ∧ x = .int (n : Int) := by
  unfold nats at h
  rw [List.getElem?_map] at h
  obtain ⟨n, hn, rfl⟩ := Option.map_eq_some_iff.mp h
  exact ⟨n, hn, rfl⟩
theorem nats_len (l : List Nat) : (nats l).length = l.length := List.length_map ..
noncomputable def dk (acc : List Nat) : List (Key × V) := acc.map fun (p : Nat) => (Sum.inl (p : Int), V.bl true)
end SC
namespace SC
open PySem L2 PyProof.Rows
noncomputable def Pairs (ps : List (V × V)) (vs : List V) (H : Hp) : Prop := vs.length = ps.length ∧ ∀ (i : Nat) p, ps[i]? = some p → ∃ t, vs[i]? = some (.ref t) ∧ H t = some (.tup [p.1, p.2])
inductive PR (σ : L2.St) : TA → List (V × V) → Prop where
  | nil : PR σ tNil []
  | cons {ta tb : TE} {tr : TA} {a b : V} {ps : List (V × V)} (ha : ∀ H Q, Q a H → ta σ H Q) (hb : ∀ H Q, Q b H → tb σ H Q) (r : PR σ tr ps) : PR σ (tCons (tTup (tCons ta (tCons tb tNil))) tr) ((a, b) :: ps)
end SC
namespace SC
open PySem L2 PyProof.Rows
end SC
namespace SC
open PySem L2 PyProof.Rows
end SC
namespace SC
open PySem L2 PyProof.Rows
theorem sq3 {T1 T2 T3 : TS} {D : Ends} {σ : L2.St} {H : Hp} (h : ∀ (t1 t2 t3 : TS) (D' : Ends), t1 = T1 → t2 = T2 → t3 = T3 → D' = D → (tSeq t1 (tSeq t2 t3)) D' σ H) : (tSeq T1 (tSeq T2 T3)) D σ H := h _ _ _ _ rfl rfl rfl rfl
theorem sq4 {T1 T2 T3 T4 : TS} {D : Ends} {σ : L2.St} {H : Hp} (h : ∀ (t1 t2 t3 t4 : TS) (D' : Ends), t1 = T1 → t2 = T2 → t3 = T3 → t4 = T4 → D' = D → (tSeq t1 (tSeq t2 (tSeq t3 t4))) D' σ H) : (tSeq T1 (tSeq T2 (tSeq T3 T4))) D σ H := h _ _ _ _ _ rfl rfl rfl rfl rfl
theorem sq5 {T1 T2 T3 T4 T5 : TS} {D : Ends} {σ : L2.St} {H : Hp} (h : ∀ (t1 t2 t3 t4 t5 : TS) (D' : Ends), t1 = T1 → t2 = T2 → t3 = T3 → t4 = T4 → t5 = T5 → D' = D → (tSeq t1 (tSeq t2 (tSeq t3 (tSeq t4 t5)))) D' σ H) : (tSeq T1 (tSeq T2 (tSeq T3 (tSeq T4 T5)))) D σ H := h _ _ _ _ _ _ rfl rfl rfl rfl rfl rfl
theorem sq9 {T1 T2 T3 T4 T5 T6 T7 T8 T9 : TS} {D : Ends} {σ : L2.St} {H : Hp} (h : ∀ (t1 t2 t3 t4 t5 t6 t7 t8 t9 : TS) (D' : Ends), t1 = T1 → t2 = T2 → t3 = T3 → t4 = T4 → t5 = T5 → t6 = T6 → t7 = T7 → t8 = T8 → t9 = T9 → D' = D → (tSeq t1 (tSeq t2 (tSeq t3 (tSeq t4 (tSeq t5 (tSeq t6 (tSeq t7 (tSeq t8 t9)))))))) D' σ H) : (tSeq T1 (tSeq T2 (tSeq T3 (tSeq T4 (tSeq T5 (tSeq T6 (tSeq T7 (tSeq T8 T9)))))))) D σ H := h _ _ _ _ _ _ _ _ _ _ rfl rfl rfl rfl rfl rfl rfl rfl rfl rfl
theorem sq17 {T1 T2 T3 T4 T5 T6 T7 T8 T9 T10 T11 T12 T13 T14 T15 T16 T17 : TS} {D : Ends} {σ : L2.St} {H : Hp} (h : ∀ (t1 t2 t3 t4 t5 t6 t7 t8 t9 t10 t11 t12 t13 t14 t15 t16 t17 : TS) (D' : Ends), t1 = T1 → t2 = T2 → t3 = T3 → t4 = T4 → t5 = T5 → t6 = T6 → t7 = T7 → t8 = T8 → t9 = T9 → t10 = T10 → t11 = T11 → t12 = T12 → t13 = T13 → t14 = T14 → t15 = T15 → t16 = T16 → t17 = T17 → D' = D → (tSeq t1 (tSeq t2 (tSeq t3 (tSeq t4 (tSeq t5 (tSeq t6 (tSeq t7 (tSeq t8 (tSeq t9 (tSeq t10 (tSeq t11 (tSeq t12 (tSeq t13 (tSeq t14 (tSeq t15 (tSeq t16 t17)))))))))))))))) D' σ H) : (tSeq T1 (tSeq T2 (tSeq T3 (tSeq T4 (tSeq T5 (tSeq T6 (tSeq T7 (tSeq T8 (tSeq T9 (tSeq T10 (tSeq T11 (tSeq T12 (tSeq T13 (tSeq T14 (tSeq T15 (tSeq T16 T17)))))))))))))))) D σ H := h _ _ _ _ _ _ _ _ _ _ _ _ _ _ _ _ _ _ rfl rfl rfl rfl rfl rfl rfl rfl rfl rfl rfl rfl rfl rfl rfl rfl rfl rfl
end SC
set_option Elab.async false
set_option linter.all false
set_option maxRecDepth 100000
set_option exponentiation.threshold 5000
namespace SC
open PySem L2 PyProof.Rows
theorem tf {b : Bool} {α : Prop} (h : b = true) (h' : b = false) : α := by rw [h] at h'; cases h'
theorem mul2 (i : Int) : CMulA i 2 := .inl (.inr ⟨by decide, by decide⟩)
noncomputable def tupV (H : Hp) (v : V) : Option (List V) := match v with
  | .ref a => match H a with
    | some (.tup xs) => some xs
    | _ => none
  | _ => none
noncomputable def isTimesV : List V → Bool
  | [_, a, b] => wholeV a 0 999999 && wholeV b 0 999999
  | _ => false
noncomputable def isHighV : List V → Bool
  | [_, a, b] => wholeV a 0 999999 && wholeV b 1 30
  | _ => false
noncomputable def isToldV (H : Hp) : List V → Bool
  | [_, t] => match tupV H t with
    | some ns => (decide (1 ≤ ns.length) && decide (ns.length ≤ 64)) && ns.all fun z => wholeV z 0 999
    | none => false
  | _ => false
noncomputable def isRuleV (H : Hp) (v : V) : Bool := match tupV H v with
  | some (.str s :: r) => if s = "times" then isTimesV (.str s :: r) else if s = "high" then isHighV (.str s :: r) else decide (s = "told") && isToldV H (.str s :: r)
  | _ => false
structure Plain (H : Hp) (v : V) : Prop where
  kn : ∃ T, Kn H v T
  its : ∀ xs, tupV H v = some xs → ∀ y ∈ xs, (∃ T, Kn H y T) ∧ ∀ ys, tupV H y = some ys → ys.length ≤ 1000 ∧ ∀ z ∈ ys, ∃ T, Kn H z T
  few : ∀ xs, tupV H v = some xs → xs.length ≤ 1000
noncomputable def spTimes : Sp := fun vs H Q _ => ∃ p xs, vs = [.ref p] ∧ H p = some (.tup xs) ∧ (∀ y ∈ xs, ∃ T, Kn H y T) ∧ Q (.bl (isTimesV xs)) H
noncomputable def spHigh : Sp := fun vs H Q _ => ∃ p xs, vs = [.ref p] ∧ H p = some (.tup xs) ∧ (∀ y ∈ xs, ∃ T, Kn H y T) ∧ Q (.bl (isHighV xs)) H
theorem len3 {xs : List V} (h : xs.length = 3) : ∃ a b c, xs = [a, b, c] := match xs, h with | [a, b, c], _ => ⟨a, b, c, rfl⟩
theorem isTimes_no {xs : List V} (h : xs.length ≠ 3) : isTimesV xs = false := by
  match xs, h with
  | [], _ => rfl
  | [_], _ => rfl
  | [_, _], _ => rfl
  | [_, _, _], h => exact absurd rfl h
  | _ :: _ :: _ :: _ :: _, _ => rfl
theorem isHigh_no {xs : List V} (h : xs.length ≠ 3) : isHighV xs = false := by
  match xs, h with
  | [], _ => rfl
  | [_], _ => rfl
  | [_, _], _ => rfl
  | [_, _, _], h => exact absurd rfl h
  | _ :: _ :: _ :: _ :: _, _ => rfl
noncomputable def spTold : Sp := fun vs H Q _ => ∃ p xs, vs = [.ref p] ∧ H p = some (.tup xs) ∧ (∀ y ∈ xs, (∃ T, Kn H y T) ∧ ∀ ys, tupV H y = some ys → ys.length ≤ 1000 ∧ ∀ z ∈ ys, ∃ T, Kn H z T) ∧ ∀ H', Same H H' → Q (.bl (isToldV H xs)) H'
noncomputable def spIsRule : Sp := fun vs H Q _ => ∃ v, vs = [v] ∧ Plain H v ∧ ∀ H', Same H H' → Q (.bl (isRuleV H v)) H'
theorem len2 {xs : List V} (h : xs.length = 2) : ∃ a b, xs = [a, b] := match xs, h with | [a, b], _ => ⟨a, b, rfl⟩
theorem isTold_no {H : Hp} {xs : List V} (h : xs.length ≠ 2) : isToldV H xs = false := by
  match xs, h with
  | [], _ => rfl
  | [_], _ => rfl
  | [_, _], h => exact absurd rfl h
  | _ :: _ :: _ :: _, _ => rfl
theorem tupV_of {H : Hp} {v : V} {T : Ty6} (h : Kn H v T) (ht : T.isT = true) : ∃ a xs, v = .ref a ∧ H a = some (.tup xs) ∧ tupV H v = some xs := by
  cases h with
  | tup e => exact ⟨_, _, rfl, e, by simp [tupV, e]⟩
  | _ => cases ht
theorem tupV_no {H : Hp} {v : V} {T : Ty6} (h : Kn H v T) (ht : T.isT = false) : tupV H v = none := by
  cases h with
  | tup e => cases ht
  | lst e => simp [tupV, e]
  | _ => rfl
inductive Rl where
  | times (a b : Int)
  | high (a b : Int)
  | told (ns : List Int)
noncomputable def RlAt (H : Hp) (v : V) : Rl → Prop
  | .times a b => ∃ p, v = .ref p ∧ H p = some (.tup [.str "times", .int a, .int b])
  | .high a b => ∃ p, v = .ref p ∧ H p = some (.tup [.str "high", .int a, .int b])
  | .told ns => ∃ p q, v = .ref p ∧ H p = some (.tup [.str "told", .ref q]) ∧ H q = some (.tup (ns.map V.int))
noncomputable def Rl.Ok : Rl → Prop
  | .times a b => (0 ≤ a ∧ a ≤ 999999) ∧ 0 ≤ b ∧ b ≤ 999999
  | .high a b => (0 ≤ a ∧ a ≤ 999999) ∧ 1 ≤ b ∧ b ≤ 30
  | .told ns => (1 ≤ ns.length ∧ ns.length ≤ 64) ∧ ∀ n ∈ ns, 0 ≤ n ∧ n ≤ 999
noncomputable def Rl.home (r : Rl) (k z : Int) : Int := match r with
  | .times a b => (a * k + b) % z
  | .high a b => (a * k) % 2 ^ b.toNat * z / 2 ^ b.toNat
  | .told ns => ns.getD (k % ns.length).toNat 0 % z
theorem RlAt.same {H H' : Hp} {v : V} {r : Rl} (s : Same H H') (h : RlAt H v r) : RlAt H' v r := by
  cases r with
  | times a b => obtain ⟨p, e, hp⟩ := h; exact ⟨p, e, s _ _ hp⟩
  | high a b => obtain ⟨p, e, hp⟩ := h; exact ⟨p, e, s _ _ hp⟩
  | told ns => obtain ⟨p, q, e, hp, hq⟩ := h; exact ⟨p, q, e, s _ _ hp, s _ _ hq⟩
theorem tupV_at {H : Hp} {p : Addr} {xs : List V} (h : H p = some (.tup xs)) : tupV H (.ref p) = some xs := by simp [tupV, h]
theorem RlAt.rule {H : Hp} {v : V} {r : Rl} (h : RlAt H v r) (ok : r.Ok) : isRuleV H v = true := by
  cases r with
  | times a b =>
    obtain ⟨p, rfl, hp⟩ := h
    obtain ⟨⟨a1, a2⟩, b1, b2⟩ := ok
    simp only [isRuleV, tupV_at hp]
    rw [if_pos trivial]
    simp only [isTimesV, wholeV_int a1 a2, wholeV_int b1 b2, Bool.and_self]
  | high a b =>
    obtain ⟨p, rfl, hp⟩ := h
    obtain ⟨⟨a1, a2⟩, b1, b2⟩ := ok
    simp only [isRuleV, tupV_at hp]
    rw [if_neg (by decide +kernel), if_pos trivial]
    simp only [isHighV, wholeV_int a1 a2, wholeV_int b1 b2, Bool.and_self]
  | told ns =>
    obtain ⟨p, q, rfl, hp, hq⟩ := h
    obtain ⟨⟨a1, a2⟩, b1⟩ := ok
    simp only [isRuleV, tupV_at hp]
    rw [if_neg (by decide +kernel), if_neg (by decide +kernel)]
    simp only [isToldV, tupV_at hq]
    rw [List.length_map, decide_eq_true a1, decide_eq_true a2]
    simp only [decide_true, Bool.true_and, List.all_map, List.all_eq_true]
    intro n hn
    exact wholeV_int (b1 n hn).1 (b1 n hn).2
theorem RlAt.plain {H : Hp} {v : V} {r : Rl} (h : RlAt H v r) (ok : r.Ok) : Plain H v := by
  cases r with
  | times a b =>
    obtain ⟨p, rfl, hp⟩ := h
    refine ⟨⟨_, .tup hp⟩, fun xs e y hy => ?_, fun xs e => ?_⟩
    · rw [tupV_at hp] at e; cases e
      simp only [List.mem_cons, List.not_mem_nil, or_false] at hy
      rcases hy with rfl | rfl | rfl
      · exact ⟨⟨_, .str _⟩, fun ys e => by simp [tupV] at e⟩
      · exact ⟨⟨_, .int _⟩, fun ys e => by simp [tupV] at e⟩
      · exact ⟨⟨_, .int _⟩, fun ys e => by simp [tupV] at e⟩
    · rw [tupV_at hp] at e; cases e; simp
  | high a b =>
    obtain ⟨p, rfl, hp⟩ := h
    refine ⟨⟨_, .tup hp⟩, fun xs e y hy => ?_, fun xs e => ?_⟩
    · rw [tupV_at hp] at e; cases e
      simp only [List.mem_cons, List.not_mem_nil, or_false] at hy
      rcases hy with rfl | rfl | rfl
      · exact ⟨⟨_, .str _⟩, fun ys e => by simp [tupV] at e⟩
      · exact ⟨⟨_, .int _⟩, fun ys e => by simp [tupV] at e⟩
      · exact ⟨⟨_, .int _⟩, fun ys e => by simp [tupV] at e⟩
    · rw [tupV_at hp] at e; cases e; simp
  | told ns =>
    obtain ⟨p, q, rfl, hp, hq⟩ := h
    obtain ⟨⟨a1, a2⟩, b1⟩ := ok
    refine ⟨⟨_, .tup hp⟩, fun xs e y hy => ?_, fun xs e => ?_⟩
    · rw [tupV_at hp] at e; cases e
      simp only [List.mem_cons, List.not_mem_nil, or_false] at hy
      rcases hy with rfl | rfl
      · exact ⟨⟨_, .str _⟩, fun ys e => by simp [tupV] at e⟩
      · refine ⟨⟨_, .tup hq⟩, fun ys e => ?_⟩
        rw [tupV_at hq] at e; cases e
        refine ⟨by rw [List.length_map]; omega, fun z hz => ?_⟩
        obtain ⟨n, _, rfl⟩ := List.mem_map.mp hz
        exact ⟨_, .int n⟩
    · rw [tupV_at hp] at e; cases e; simp
noncomputable def spCheckRule (cR : Addr) : Sp := fun vs H Q E => ∃ v, vs = [v] ∧ Plain H v ∧ ∀ H', Same H H' → if isRuleV H v = true then Q .non H' else E (.ref cR) none H'
noncomputable def spReckon : Sp := fun vs H Q _ => ∃ v r k z, vs = [v, .int k, .int z] ∧ RlAt H v r ∧ r.Ok ∧ (0 ≤ k ∧ k ≤ 999999) ∧ (1 ≤ z ∧ z ≤ 100000) ∧ Q (.int (r.home k z)) H
theorem ofWhole {v : V} {lo hi : Int} (h : wholeV v lo hi = true) : ∃ i, v = .int i ∧ lo ≤ i ∧ i ≤ hi := by
  cases v with
  | int i =>
    simp only [wholeV, Bool.and_eq_true, decide_eq_true_eq] at h
    exact ⟨i, rfl, h.1, h.2⟩
  | _ => simp [wholeV] at h
theorem tupV_some {H : Hp} {v : V} {xs : List V} (h : tupV H v = some xs) : ∃ p, v = .ref p ∧ H p = some (.tup xs) := by
  unfold tupV at h
  split at h
  · split at h
    · rename_i a _ ys e
      cases h
      exact ⟨a, rfl, e⟩
    · cases h
  · cases h
theorem allWhole {hi : Int} : ∀ {ns : List V}, (ns.all fun z => wholeV z 0 hi) = true → ∃ ms : List Int, ns = ms.map V.int ∧ ∀ m ∈ ms, 0 ≤ m ∧ m ≤ hi
  | [], _ => ⟨[], rfl, fun _ z => nomatch z⟩
  | n :: ns, h => by
    rw [List.all_cons, Bool.and_eq_true] at h
    obtain ⟨i, rfl, a, b⟩ := ofWhole h.1
    obtain ⟨ms, rfl, k⟩ := allWhole h.2
    refine ⟨i :: ms, rfl, fun m hm => ?_⟩
    rcases List.mem_cons.mp hm with rfl | hm
    · exact ⟨a, b⟩
    · exact k m hm
theorem ofTimes {xs : List V} (h : isTimesV xs = true) : ∃ x a b, xs = [x, .int a, .int b] ∧ (0 ≤ a ∧ a ≤ 999999) ∧ 0 ≤ b ∧ b ≤ 999999 := by
  by_cases hl : xs.length = 3
  · obtain ⟨x, y, z, rfl⟩ := len3 hl
    simp only [isTimesV, Bool.and_eq_true] at h
    obtain ⟨a, rfl, a1, a2⟩ := ofWhole h.1
    obtain ⟨b, rfl, b1, b2⟩ := ofWhole h.2
    exact ⟨x, a, b, rfl, ⟨a1, a2⟩, b1, b2⟩
  · rw [isTimes_no hl] at h; cases h
theorem ofHigh {xs : List V} (h : isHighV xs = true) : ∃ x a b, xs = [x, .int a, .int b] ∧ (0 ≤ a ∧ a ≤ 999999) ∧ 1 ≤ b ∧ b ≤ 30 := by
  by_cases hl : xs.length = 3
  · obtain ⟨x, y, z, rfl⟩ := len3 hl
    simp only [isHighV, Bool.and_eq_true] at h
    obtain ⟨a, rfl, a1, a2⟩ := ofWhole h.1
    obtain ⟨b, rfl, b1, b2⟩ := ofWhole h.2
    exact ⟨x, a, b, rfl, ⟨a1, a2⟩, b1, b2⟩
  · rw [isHigh_no hl] at h; cases h
theorem ofTold {H : Hp} {xs : List V} (h : isToldV H xs = true) : ∃ x q ns, xs = [x, .ref q] ∧ H q = some (.tup (List.map V.int ns)) ∧ (1 ≤ ns.length ∧ ns.length ≤ 64) ∧ ∀ n ∈ ns, 0 ≤ n ∧ n ≤ 999 := by
  by_cases hl : xs.length = 2
  · obtain ⟨x, y, rfl⟩ := len2 hl
    simp only [isToldV] at h
    cases e : tupV H y with
    | none => rw [e] at h; cases h
    | some ys =>
      rw [e] at h
      simp only [Bool.and_eq_true, decide_eq_true_eq] at h
      obtain ⟨⟨h1, h2⟩, h3⟩ := h
      obtain ⟨q, rfl, hq⟩ := tupV_some e
      obtain ⟨ms, rfl, k⟩ := allWhole h3
      rw [List.length_map] at h1 h2
      exact ⟨x, q, ms, rfl, hq, ⟨h1, h2⟩, k⟩
  · rw [isTold_no hl] at h; cases h
theorem ofRule {H : Hp} {v : V} (h : isRuleV H v = true) : ∃ r, RlAt H v r ∧ r.Ok := by
  unfold isRuleV at h
  split at h
  · rename_i s r e
    obtain ⟨p, rfl, hp⟩ := tupV_some e
    by_cases h1 : s = "times"
    · rw [if_pos h1] at h
      obtain ⟨x, a, b, e2, k⟩ := ofTimes h
      rw [e2] at hp
      have := (List.cons.inj e2).1
      subst this h1
      exact ⟨.times a b, ⟨p, rfl, hp⟩, k⟩
    · rw [if_neg h1] at h
      by_cases h2 : s = "high"
      · rw [if_pos h2] at h
        obtain ⟨x, a, b, e2, k⟩ := ofHigh h
        rw [e2] at hp
        have := (List.cons.inj e2).1
        subst this h2
        exact ⟨.high a b, ⟨p, rfl, hp⟩, k⟩
      · rw [if_neg h2, Bool.and_eq_true, decide_eq_true_eq] at h
        obtain ⟨h3, h⟩ := h
        obtain ⟨x, q, ns, e2, hq, k⟩ := ofTold h
        rw [e2] at hp
        have := (List.cons.inj e2).1
        subst this h3
        exact ⟨.told ns, ⟨p, q, rfl, hp, hq⟩, k⟩
  · cases h
theorem sT (a b : Str) (h : a ≠ b) : decide (V.str a = V.str b) = false := decide_eq_false fun z => h (V.str.inj z)
theorem sY (a : Str) : decide (V.str a = V.str a) = true := decide_eq_true rfl
theorem mulS {i j : Int} (h1 : 0 ≤ j) (h2 : j ≤ 999999999) : CMulA i j := .inl (.inr ⟨by omega, by omega⟩)
theorem pow30 {n : Nat} (h : n ≤ 30) : (0 : Int) < 2 ^ n ∧ (2 : Int) ^ n ≤ 1073741824 := by
  refine ⟨Int.pow_pos (by decide), ?_⟩
  have : (2 : Nat) ^ n ≤ 2 ^ 30 := Nat.pow_le_pow_right (by decide) h
  have e : ((2 ^ n : Nat) : Int) = (2 : Int) ^ n := by rw [Int.natCast_pow]; rfl
  rw [← e]
  exact Int.ofNat_le.mpr this
theorem atI_getD {ns : List Int} {j : Int} (h0 : 0 ≤ j) (h1 : j < ns.length) : atI (ns.map V.int) j = some (.int (ns.getD j.toNat 0)) := by
  have h2 : j.toNat < ns.length := by omega
  have e : ((j.toNat : Nat) : Int) = j := by omega
  have := atI_nat (xs := ns.map V.int) (j := j.toNat) (v := .int (ns.getD j.toNat 0)) (by rw [List.getElem?_map, List.getElem?_eq_getElem h2]; simp [List.getD, h2])
  rw [e] at this
  exact this
noncomputable def spHome (cR cK cZ : Addr) : Sp := fun vs H Q E => ∃ v k z T1 T2, vs = [v, k, z] ∧ Plain H v ∧ Kn H k T1 ∧ Kn H z T2 ∧ ∀ H', Same H H' →
  (isRuleV H v = false → E (.ref cR) none H') ∧ (isRuleV H v = true → wholeV k 0 999999 = false → E (.ref cK) none H') ∧ (isRuleV H v = true → wholeV k 0 999999 = true → wholeV z 2 64 = false → E (.ref cZ) none H') ∧
  ∀ r ki zi, RlAt H v r → r.Ok → k = .int ki → z = .int zi → (0 ≤ ki ∧ ki ≤ 999999) → (2 ≤ zi ∧ zi ≤ 64) → Q (.int (r.home ki zi)) H'
theorem cpw {j : Int} (h0 : 0 ≤ j) (h1 : j ≤ 1000000) : CPow 2 j := ⟨h0, h1, by decide⟩
theorem cpw1 {j : Int} (h0 : 0 ≤ j) (h1 : j ≤ 1000000) : CPow 1 j := ⟨h0, h1, by decide⟩
theorem shl1 {i : Int} {n : Nat} (h : n ≤ 64) : CDivA i (1 * 2 ^ n) := by
  have h1 : (2 : Nat) ^ n ≤ 2 ^ 64 := Nat.pow_le_pow_right (by decide) h
  have e : ((2 ^ n : Nat) : Int) = (2 : Int) ^ n := by rw [Int.natCast_pow]; rfl
  rw [Int.one_mul]
  refine divC (Int.pow_pos (by decide)) ?_
  rw [← e]
  exact Int.ofNat_le.mpr h1
theorem memI (Pr : Int → Prop) : ∀ {ns : List Int} {v : V}, v ∈ ns.map V.int → (∀ n ∈ ns, Pr n) → ∃ i, v = .int i ∧ Pr i := fun h k => by
  obtain ⟨n, hn, rfl⟩ := List.mem_map.mp h
  exact ⟨n, rfl, k n hn⟩
theorem allI {Pr : Int → Prop} : ∀ n ∈ ([] : List Int), Pr n := fun _ h => nomatch h
theorem allC {Pr : Int → Prop} {a : Int} {ns : List Int} (h : Pr a) (k : ∀ n ∈ ns, Pr n) : ∀ n ∈ a :: ns, Pr n := fun n hn => by
  rcases List.mem_cons.mp hn with rfl | hn
  · exact h
  · exact k n hn
theorem Rl.inj {H : Hp} {v : V} {r r' : Rl} (h : RlAt H v r) (h' : RlAt H v r') : r = r' := by
  cases r with
  | times a b =>
    obtain ⟨p, rfl, hp⟩ := h
    cases r' with
    | times c d => obtain ⟨p', e, hp'⟩ := h'; cases e; rw [hp] at hp'; injection hp' with e; injection e with e; simp only [List.cons.injEq, V.int.injEq] at e; rw [e.2.1, e.2.2.1]
    | high c d => obtain ⟨p', e, hp'⟩ := h'; cases e; rw [hp] at hp'; injection hp' with e; injection e with e; simp only [List.cons.injEq, V.str.injEq] at e; exact absurd e.1 (by decide +kernel)
    | told ns => obtain ⟨p', _, e, hp', _⟩ := h'; cases e; rw [hp] at hp'; injection hp' with e; injection e with e; simp only [List.cons.injEq, V.str.injEq] at e; exact absurd e.1 (by decide +kernel)
  | high a b =>
    obtain ⟨p, rfl, hp⟩ := h
    cases r' with
    | high c d => obtain ⟨p', e, hp'⟩ := h'; cases e; rw [hp] at hp'; injection hp' with e; injection e with e; simp only [List.cons.injEq, V.int.injEq] at e; rw [e.2.1, e.2.2.1]
    | times c d => obtain ⟨p', e, hp'⟩ := h'; cases e; rw [hp] at hp'; injection hp' with e; injection e with e; simp only [List.cons.injEq, V.str.injEq] at e; exact absurd e.1 (by decide +kernel)
    | told ns => obtain ⟨p', _, e, hp', _⟩ := h'; cases e; rw [hp] at hp'; injection hp' with e; injection e with e; simp only [List.cons.injEq, V.str.injEq] at e; exact absurd e.1 (by decide +kernel)
  | told ns =>
    obtain ⟨p, q, rfl, hp, hq⟩ := h
    cases r' with
    | high c d => obtain ⟨p', e, hp'⟩ := h'; cases e; rw [hp] at hp'; injection hp' with e; injection e with e; simp only [List.cons.injEq, V.str.injEq] at e; exact absurd e.1 (by decide +kernel)
    | times c d => obtain ⟨p', e, hp'⟩ := h'; cases e; rw [hp] at hp'; injection hp' with e; injection e with e; simp only [List.cons.injEq, V.str.injEq] at e; exact absurd e.1 (by decide +kernel)
    | told ms =>
      obtain ⟨p', q', e, hp', hq'⟩ := h'
      cases e
      rw [hp] at hp'; injection hp' with e; injection e with e; simp only [List.cons.injEq, V.ref.injEq] at e
      rw [← e.2.1, hq] at hq'; injection hq' with e; injection e with e
      rw [List.map_inj_right (fun _ _ z => V.int.inj z)] at e
      rw [e]
noncomputable def spHomeL : Sp := fun vs H Q _ => ∃ v r k z, vs = [v, .int k, .int z] ∧ RlAt H v r ∧ r.Ok ∧ (0 ≤ k ∧ k ≤ 999999) ∧ (1 ≤ z ∧ z ≤ 100000) ∧ Q (.int (r.home k z)) H
noncomputable def spRuleL : Sp := fun vs H Q _ => ∃ m, vs = [.int m] ∧ 0 ≤ m ∧ m < 2 ^ 128 ∧ ∀ v r H', Same H H' → RlAt H' v r → r.Ok → Q v H'
end SC
set_option linter.all false
namespace S40
noncomputable def mem (p : Nat) : List Nat → Bool
  | [] => false
  | q :: r => Nat.beq p q || mem p r
theorem mem_iff {p : Nat} : ∀ {l : List Nat}, mem p l = true ↔ p ∈ l
  | [] => by simp [mem]
  | q :: r => by
    rw [mem, Bool.or_eq_true, mem_iff, List.mem_cons]
    constructor
    · rintro (h | h)
      · exact .inl (Nat.eq_of_beq_eq_true h)
      · exact .inr h
    · rintro (h | h)
      · exact .inl (by rw [h]; exact Nat.beq_refl q)
      · exact .inr h
noncomputable def tOf (s : Nat) (acc : List Nat) : Nat → Nat → Nat
  | 0, _ => 0
  | f + 1, p => bif mem p acc then tOf s acc f ((p + 1) % s) + 1 else 0
noncomputable def tt (s : Nat) (acc : List Nat) (p : Nat) : Nat := tOf s acc s p
noncomputable def fps (s : Nat) (acc : List Nat) : List Nat → List Nat
  | [] => acc
  | h :: r => fps s (acc ++ [(h + tt s acc h) % s]) r
noncomputable def wts (s : Nat) (acc : List Nat) : List Nat → Nat
  | [] => 0
  | h :: r => tt s acc h + wts s (acc ++ [(h + tt s acc h) % s]) r
theorem fps_snoc (s : Nat) : ∀ (l : List Nat) (acc : List Nat) (h : Nat), fps s acc (l ++ [h]) = fps s acc l ++ [(h + tt s (fps s acc l) h) % s]
  | [], acc, h => rfl
  | x :: l, acc, h => by rw [List.cons_append, fps, fps, fps_snoc s l]
theorem wts_snoc (s : Nat) : ∀ (l : List Nat) (acc : List Nat) (h : Nat), wts s acc (l ++ [h]) = wts s acc l + tt s (fps s acc l) h
  | [], acc, h => by simp [wts, fps]
  | x :: l, acc, h => by rw [List.cons_append, wts, wts, fps, wts_snoc s l, Nat.add_assoc]
theorem fps_len (s : Nat) : ∀ (l acc : List Nat), (fps s acc l).length = acc.length + l.length
  | [], acc => rfl
  | h :: r, acc => by rw [fps, fps_len s r, List.length_append]; simp only [List.length_cons, List.length_nil]; omega
theorem len_sub : ∀ {l m : List Nat}, l.Nodup → (∀ x ∈ l, x ∈ m) → l.length ≤ m.length
  | [], m, _, _ => Nat.zero_le _
  | x :: l, m, nd, h => by
    rw [List.nodup_cons] at nd
    have h1 : x ∈ m := h x (List.mem_cons_self ..)
    have h2 := len_sub (l := l) (m := m.erase x) nd.2 fun y hy => by
      have hne : y ≠ x := fun e => nd.1 (e ▸ hy)
      exact (List.mem_erase_of_ne hne).mpr (h y (List.mem_cons_of_mem _ hy))
    rw [List.length_erase_of_mem h1] at h2
    have := List.length_pos_of_mem h1
    simp only [List.length_cons]
    omega
theorem mod_ne {s p u v : Nat} (h1 : u < v) (h2 : v < u + s) : (p + u) % s ≠ (p + v) % s := fun e => by
  have h : (p + v - (p + u)) % s = 0 := Nat.sub_mod_eq_zero_of_mod_eq e.symm
  have h3 : p + v - (p + u) = v - u := by omega
  rw [h3, Nat.mod_eq_of_lt (by omega)] at h
  omega
theorem run_le {s p : Nat} {acc : List Nat} {t : Nat} (ht : t ≤ s) (h : ∀ u, u < t → (p + u) % s ∈ acc) : t ≤ acc.length := by
  have nd : ((List.range t).map fun u => (p + u) % s).Nodup := by
    rw [List.nodup_iff_pairwise_ne, List.pairwise_map]
    refine List.Pairwise.imp_of_mem ?_ (List.pairwise_lt_range (n := t))
    intro a b ha hb hab
    rw [List.mem_range] at ha hb
    exact mod_ne hab (by omega)
  have := len_sub nd (m := acc) fun x hx => by
    obtain ⟨u, hu, rfl⟩ := List.mem_map.mp hx
    exact h u (List.mem_range.mp hu)
  simpa using this
theorem tOf_spec {s : Nat} {acc : List Nat} (hs : 0 < s) : ∀ (f p : Nat), p < s → (∃ t, t < f ∧ (p + t) % s ∉ acc) → (∀ u, u < tOf s acc f p → (p + u) % s ∈ acc) ∧ (p + tOf s acc f p) % s ∉ acc ∧ tOf s acc f p < f
  | 0, p, _, ⟨t, h, _⟩ => absurd h (Nat.not_lt_zero _)
  | f + 1, p, hp, ⟨t, ht, hn⟩ => by
    rw [tOf]
    cases c : mem p acc with
    | false =>
      have : p ∉ acc := fun z => by rw [mem_iff.mpr z] at c; cases c
      exact ⟨fun u hu => absurd hu (Nat.not_lt_zero _), by rw [cond_false, Nat.add_zero, Nat.mod_eq_of_lt hp]; exact this, Nat.succ_pos _⟩
    | true =>
      have hin := mem_iff.mp c
      have sh : ∀ u, ((p + 1) % s + u) % s = (p + (u + 1)) % s := fun u => by
        rw [Nat.mod_add_mod]; congr 1; omega
      have t0 : t ≠ 0 := fun z => by rw [z, Nat.add_zero, Nat.mod_eq_of_lt hp] at hn; exact hn hin
      obtain ⟨h1, h2, h3⟩ := tOf_spec hs f ((p + 1) % s) (Nat.mod_lt _ hs) ⟨t - 1, by omega, by rw [sh, Nat.sub_add_cancel (by omega)]; exact hn⟩
      rw [cond_true]
      refine ⟨fun u hu => ?_, ?_, by omega⟩
      · cases u with
        | zero => rw [Nat.add_zero, Nat.mod_eq_of_lt hp]; exact hin
        | succ u => rw [← sh]; exact h1 u (by omega)
      · rw [← sh]; exact h2
theorem tt_spec {s p : Nat} {acc : List Nat} (hp : p < s) (hl : acc.length < s) : (∀ u, u < tt s acc p → (p + u) % s ∈ acc) ∧ (p + tt s acc p) % s ∉ acc ∧ tt s acc p ≤ acc.length := by
  have ex : ∃ t, t < s ∧ (p + t) % s ∉ acc := by
    refine Classical.byContradiction fun c => ?_
    have := run_le (s := s) (p := p) (acc := acc) (t := s) (Nat.le_refl _) fun u hu => Classical.byContradiction fun z => c ⟨u, hu, z⟩
    omega
  obtain ⟨h1, h2, h3⟩ := tOf_spec (by omega) s p hp ex
  exact ⟨h1, h2, run_le (Nat.le_of_lt h3) h1⟩
end S40
set_option Elab.async false
set_option linter.all false
set_option maxRecDepth 100000
set_option exponentiation.threshold 5000
namespace SC
open PySem L2 PyProof.Rows S40
noncomputable def spFirsts : Sp := fun vs H Q _ => ∃ (L : Addr) (s : Nat) (starts : List Nat), vs = [.ref L, .int s] ∧ H L = some (.lst (nats starts)) ∧ (∀ x ∈ starts, x < s) ∧ starts.length < s ∧ s ≤ 1000 ∧ ∀ p H', Same H H' → H' p = some (.lst (nats (fps s [] starts))) → Q (.ref p) H'
theorem tt_lt {s p : Nat} {acc : List Nat} (hp : p < s) (hl : acc.length < s) : tt s acc p < s := Nat.lt_of_le_of_lt (tt_spec hp hl).2.2 hl
theorem fps_take {s : Nat} {l : List Nat} {i : Nat} {x : Nat} (h : l[i]? = some x) : fps s [] (l.take (i + 1)) = fps s [] (l.take i) ++ [(x + tt s (fps s [] (l.take i)) x) % s] ∧ wts s [] (l.take (i + 1)) = wts s [] (l.take i) + tt s (fps s [] (l.take i)) x := by
  obtain ⟨hi, rfl⟩ := List.getElem?_eq_some_iff.mp h
  rw [List.take_succ_eq_append_getElem hi, fps_snoc, wts_snoc]
  exact ⟨rfl, rfl⟩
theorem fps_tlen {s : Nat} {l : List Nat} {i : Nat} (h : i ≤ l.length) : (fps s [] (l.take i)).length = i := by
  rw [fps_len, List.length_take]; simp only [List.length_nil]; omega
theorem next_place {s x u : Nat} : ((((x + u) % s : Nat) : Int) + 1) % (s : Int) = (((x + (u + 1)) % s : Nat) : Int) := by
  have e : ((((x + u) % s : Nat) : Int) + 1) = (((x + u) % s + 1 : Nat) : Int) := by omega
  rw [e, ← Int.natCast_emod, Nat.mod_add_mod]
  rfl
end SC
set_option linter.all false
namespace Ly
noncomputable def nx (n p : Nat) : Nat := if p + 1 = n then 0 else p + 1
noncomputable def dist (n a b : Nat) : Nat := if a ≤ b then b - a else b + n - a
noncomputable def rho (n e i : Nat) : Nat := if e + 1 + i < n then e + 1 + i else e + 1 + i - n
noncomputable def off (n e p : Nat) : Nat := if e < p then p - e - 1 else p + n - e - 1
theorem rho_lt {n e i : Nat} (he : e < n) (hi : i < n) : rho n e i < n := by unfold rho; split <;> omega
theorem off_lt {n e p : Nat} (he : e < n) (hp : p < n) : off n e p < n := by unfold off; split <;> omega
theorem rho_is {n e i : Nat} (he : e < n) (hi : i < n) : rho n e i < n ∧ (rho n e i = e + 1 + i ∨ rho n e i + n = e + 1 + i) := by
  unfold rho
  by_cases c : e + 1 + i < n
  · rw [if_pos c]; exact ⟨c, .inl rfl⟩
  · rw [if_neg c]; omega
theorem off_is {n e p : Nat} (he : e < n) (hp : p < n) : off n e p < n ∧ (e + 1 + off n e p = p ∨ e + 1 + off n e p = p + n) := by
  unfold off
  by_cases c : e < p
  · rw [if_pos c]; omega
  · rw [if_neg c]; omega
theorem rho_of {n e i p : Nat} (hp : p < n) (h : p = e + 1 + i ∨ p + n = e + 1 + i) : rho n e i = p := by
  unfold rho
  rcases h with h | h
  · rw [if_pos (h ▸ hp), h]
  · rw [if_neg (by rw [← h]; exact Nat.not_lt.mpr (Nat.le_add_left n p)), ← h, Nat.add_sub_cancel]
theorem off_of {n e p d : Nat} (h : e + 1 + d = p ∨ (p ≤ e ∧ e + 1 + d = p + n)) : off n e p = d := by
  unfold off
  rcases h with h | ⟨h1, h⟩
  · rw [if_pos (by rw [← h]; exact Nat.lt_of_lt_of_le (Nat.lt_succ_self e) (Nat.le_add_right _ _)), Nat.sub_sub, ← h, Nat.add_sub_cancel_left]
  · rw [if_neg (Nat.not_lt.mpr h1), Nat.sub_sub, ← h, Nat.add_sub_cancel_left]
theorem off_rho {n e i : Nat} (he : e < n) (hi : i < n) : off n e (rho n e i) = i := by
  obtain ⟨_, p2⟩ := rho_is he hi
  clear he
  rcases p2 with h | h
  · exact off_of (.inl h.symm)
  · exact off_of (.inr ⟨by omega, h.symm⟩)
theorem rho_off {n e p : Nat} (he : e < n) (hp : p < n) : rho n e (off n e p) = p := rho_of hp ((off_is he hp).2.elim (fun h => .inl h.symm) fun h => .inr h.symm)
theorem rho_inj {n e i j : Nat} (he : e < n) (hi : i < n) (hj : j < n) (h : rho n e i = rho n e j) : i = j := by
  rw [← off_rho he hi, ← off_rho he hj, h]
theorem rho_last {n e : Nat} (he : e < n) : rho n e (n - 1) = e := by unfold rho; split <;> omega
theorem dist_of {n a b d : Nat} (h : a + d = b ∨ (b < a ∧ a + d = b + n)) : dist n a b = d := by
  unfold dist
  rcases h with h | ⟨h1, h⟩
  · rw [if_pos (h ▸ Nat.le_add_right a d), ← h, Nat.add_sub_cancel_left]
  · rw [if_neg (Nat.not_le_of_lt h1), ← h, Nat.add_sub_cancel_left]
theorem dist_rho {n e i j : Nat} (he : e < n) (hi : i < n) (hj : j < n) : dist n (rho n e i) (rho n e j) = if i ≤ j then j - i else j + n - i := by
  obtain ⟨p1, p2⟩ := rho_is he hi
  obtain ⟨q1, q2⟩ := rho_is he hj
  generalize rho n e i = p at p1 p2
  generalize rho n e j = q at q1 q2
  clear he
  refine dist_of ?_
  by_cases c : i ≤ j
  · obtain ⟨d, rfl⟩ := Nat.le.dest c
    rw [if_pos c, Nat.add_sub_cancel_left]
    clear c hi
    omega
  · rw [if_neg c]
    obtain ⟨d, hd⟩ := Nat.le.dest (show i ≤ j + n by omega)
    rw [← hd, Nat.add_sub_cancel_left]
    omega
noncomputable def lt (o : Int → Nat) (y k : Int) : Prop := o y < o k ∨ (o y = o k ∧ y < k)
theorem lt_irr {o : Int → Nat} {k : Int} : ¬ lt o k k := fun h => by unfold lt at h; omega
theorem lt_tr {o : Int → Nat} {a b c : Int} (h : lt o a b) (h' : lt o b c) : lt o a c := by unfold lt at *; omega
theorem lt_asy {o : Int → Nat} {a b : Int} (h : lt o a b) (h' : lt o b a) : False := by unfold lt at *; omega
theorem lt_tot {o : Int → Nat} {a b : Int} (h : ¬ lt o a b) (hn : a ≠ b) : lt o b a := by unfold lt at *; omega
structure Lin (o : Int → Nat) (f : Nat → Option Int) : Prop where
  inj : ∀ i j k, f i = some k → f j = some k → i = j
  le : ∀ i k, f i = some k → o k ≤ i
  lay : ∀ i k, f i = some k → ∀ j, o k ≤ j → j < i → ∃ y, f j = some y ∧ lt o y k
structure IsLay (n : Nat) (h : Int → Nat) (F : Nat → Option Int) : Prop where
  inj : ∀ i j k, i < n → j < n → F i = some k → F j = some k → i = j
  lay : ∀ i k, i < n → F i = some k → ∀ j, j < n → dist n (h k) j < dist n (h k) i → ∃ y, F j = some y ∧ (dist n (h k) j < dist n (h y) j ∨ (dist n (h y) j = dist n (h k) j ∧ y < k))
noncomputable def lin (n e : Nat) (F : Nat → Option Int) (i : Nat) : Option Int := if i < n then F (rho n e i) else none
theorem lin_lt {n e : Nat} {F : Nat → Option Int} {i : Nat} {k : Int} (h : lin n e F i = some k) : i < n ∧ F (rho n e i) = some k := by
  unfold lin at h
  split at h
  · exact ⟨‹_›, h⟩
  · cases h
theorem lin_at {n e : Nat} {F : Nat → Option Int} {i : Nat} (h : i < n) : lin n e F i = F (rho n e i) := by simp [lin, h]
section
variable {n e : Nat} {h : Int → Nat} {F : Nat → Option Int}
theorem IsLay.lin (L : IsLay n h F) (he : e < n) (hF : F e = none) (hh : ∀ k, h k < n) : Lin (fun k => off n e (h k)) (lin n e F) := by
  have le : ∀ i k, i < n → F (rho n e i) = some k → off n e (h k) ≤ i := fun i k hi hk => by
    refine Nat.le_of_not_lt fun c => ?_
    have hne : i ≠ n - 1 := fun z => by rw [z, rho_last he, hF] at hk; cases hk
    have d1 := dist_rho he (off_lt he (hh k)) hi
    have d2 := dist_rho he (off_lt he (hh k)) (show n - 1 < n by omega)
    rw [rho_off he (hh k)] at d1 d2
    rw [rho_last he] at d2
    have := off_lt he (hh k)
    obtain ⟨y, hy, _⟩ := L.lay _ k (rho_lt he hi) hk e he (by
      rw [if_neg (by omega)] at d1
      rw [if_pos (by omega)] at d2
      omega)
    rw [hF] at hy; cases hy
  refine ⟨fun i j k hi hj => ?_, fun i k hi => ?_, fun i k hi j h1 h2 => ?_⟩
  · obtain ⟨a, b⟩ := lin_lt hi
    obtain ⟨c, d⟩ := lin_lt hj
    exact rho_inj he a c (L.inj _ _ k (rho_lt he a) (rho_lt he c) b d)
  · obtain ⟨a, b⟩ := lin_lt hi
    exact le i k a b
  · obtain ⟨a, b⟩ := lin_lt hi
    have hj : j < n := by omega
    have d1 := dist_rho he (off_lt he (hh k)) a
    have d2 := dist_rho he (off_lt he (hh k)) hj
    rw [rho_off he (hh k)] at d1 d2
    obtain ⟨y, hy, c⟩ := L.lay _ k (rho_lt he a) b (rho n e j) (rho_lt he hj) (by
      rw [if_pos (by omega)] at d1 d2
      omega)
    refine ⟨y, by rw [lin_at hj]; exact hy, ?_⟩
    have d3 := dist_rho he (off_lt he (hh y)) hj
    rw [rho_off he (hh y)] at d3
    have l3 := le j y hj hy
    rw [d2, d3, if_pos (by omega), if_pos l3] at c
    unfold lt
    dsimp only at *
    omega
theorem Lin.ring (L : Lin (fun k => off n e (h k)) (Ly.lin n e F)) (he : e < n) (hh : ∀ k, h k < n) : IsLay n h F := by
  have tr : ∀ i k, i < n → F i = some k → Ly.lin n e F (off n e i) = some k := fun i k hi hk => by
    rw [lin_at (off_lt he hi), rho_off he hi]; exact hk
  refine ⟨fun i j k hi hj h1 h2 => ?_, fun i k hi hk j hj hd => ?_⟩
  · have := L.inj _ _ k (tr i k hi h1) (tr j k hj h2)
    rw [← rho_off he hi, ← rho_off he hj, this]
  · have l1 := L.le _ _ (tr i k hi hk)
    have d1 := dist_rho he (off_lt he (hh k)) (off_lt he hi)
    have d2 := dist_rho he (off_lt he (hh k)) (off_lt he hj)
    rw [rho_off he (hh k), rho_off he hi] at d1
    rw [rho_off he (hh k), rho_off he hj] at d2
    have b1 := off_lt he hi
    have b2 := off_lt he hj
    have b3 := off_lt he (hh k)
    skip
    rw [d1, d2, if_pos l1] at hd
    have l2 : off n e (h k) ≤ off n e j := by
      refine Nat.le_of_not_lt fun c => ?_
      rw [if_neg (by omega)] at hd
      omega
    rw [if_pos l2] at hd
    obtain ⟨y, hy, c⟩ := L.lay _ _ (tr i k hi hk) (off n e j) l2 (by omega)
    have l3 := L.le _ _ hy
    rw [lin_at (off_lt he hj), rho_off he hj] at hy
    have d3 := dist_rho he (off_lt he (hh y)) (off_lt he hj)
    rw [rho_off he (hh y), rho_off he hj] at d3
    refine ⟨y, hy, ?_⟩
    skip
    rw [d2, d3, if_pos l2, if_pos l3]
    unfold lt at c
    dsimp only at c
    omega
end
noncomputable def has (f : Nat → Option Int) (k : Int) : Prop := ∃ i, f i = some k
theorem Lin.one {o : Int → Nat} {f g : Nat → Option Int} (A : Lin o f) (B : Lin o g) (s : ∀ k, has f k ↔ has g k) : ∀ i, f i = g i := by
  have half : ∀ (f g : Nat → Option Int), Lin o f → Lin o g → (∀ k, has f k ↔ has g k) → ∀ i, (∀ j, j < i → f j = g j) → ∀ k, f i = some k → g i = some k := by
    intro f g A B s i ih k hk
    obtain ⟨m, hm⟩ := (s k).mp ⟨i, hk⟩
    have m1 : ¬ m < i := fun c => by
      have := A.inj _ _ _ (by rw [ih m c]; exact hm) hk
      omega
    by_cases e : m = i
    · rw [← e]; exact hm
    obtain ⟨y, hy, c⟩ := B.lay _ _ hm i (A.le _ _ hk) (by omega)
    obtain ⟨m', hm'⟩ := (s y).mpr ⟨i, hy⟩
    have m2 : ¬ m' < i := fun c => by
      have := B.inj _ _ _ (by rw [← ih m' c]; exact hm') hy
      omega
    have m3 : m' ≠ i := fun q => by
      rw [q, hk] at hm'; cases hm'
      exact lt_irr c
    obtain ⟨z, hz, c'⟩ := A.lay _ _ hm' i (B.le _ _ hy) (by omega)
    rw [hk] at hz; cases hz
    exact (lt_asy c c').elim
  intro i
  induction i using Nat.strongRecOn with
  | ind i ih =>
    cases e1 : f i with
    | some k => exact (half f g A B s i ih k e1).symm
    | none =>
      cases e2 : g i with
      | none => rfl
      | some k =>
        have := half g f B A (fun k => (s k).symm) i (fun j hj => (ih j hj).symm) k e2
        rw [e1] at this; cases this
noncomputable def putP (f : Nat → Option Int) (k : Int) (p q i : Nat) : Option Int := if i < p then f i else if i = p then some k else if i ≤ q then f (i - 1) else f i
theorem Lin.put {o : Int → Nat} {f : Nat → Option Int} {k : Int} {p q : Nat} (A : Lin o f) (hk : ¬ has f k) (hp : o k ≤ p) (ha : ∀ j, o k ≤ j → j < p → ∃ y, f j = some y ∧ lt o y k)
    (hs : ∀ y, f p = some y → ¬ lt o y k) (hpq : p ≤ q) (hf : ∀ j, p ≤ j → j < q → ∃ y, f j = some y) (hq : f q = none) : Lin o (putP f k p q) := by
  have kp : ∀ y, f p = some y → lt o k y := fun y hy => lt_tot (hs y hy) fun e => hk ⟨p, e ▸ hy⟩
  refine ⟨fun i j x hi hj => ?_, fun i x hi => ?_, fun i x hi j h1 h2 => ?_⟩
  · have nk : ∀ m, f m ≠ some k := fun m z => hk ⟨m, z⟩
    unfold putP at hi hj
    split at hi
    · split at hj
      · exact A.inj _ _ _ hi hj
      · split at hj
        · cases hj; exact absurd hi (nk _)
        · split at hj
          · have := A.inj _ _ _ hi hj; omega
          · exact A.inj _ _ _ hi hj
    · split at hi
      · cases hi
        split at hj
        · exact absurd hj (nk _)
        · split at hj
          · omega
          · split at hj
            · exact absurd hj (nk _)
            · exact absurd hj (nk _)
      · split at hi
        · split at hj
          · have := A.inj _ _ _ hi hj; omega
          · split at hj
            · cases hj; exact absurd hi (nk _)
            · split at hj
              · have := A.inj _ _ _ hi hj; omega
              · have := A.inj _ _ _ hi hj; omega
        · split at hj
          · exact A.inj _ _ _ hi hj
          · split at hj
            · cases hj; exact absurd hi (nk _)
            · split at hj
              · have := A.inj _ _ _ hi hj; omega
              · exact A.inj _ _ _ hi hj
  · unfold putP at hi
    split at hi
    · exact A.le _ _ hi
    · split at hi
      · cases hi; omega
      · split at hi
        · have := A.le _ _ hi; omega
        · exact A.le _ _ hi
  · by_cases c1 : i < p
    · simp only [putP, if_pos c1] at hi
      simp only [putP, if_pos (show j < p by omega)]
      exact A.lay _ _ hi j h1 h2
    by_cases c2 : i = p
    · simp only [putP, if_neg c1, if_pos c2] at hi
      cases hi
      simp only [putP, if_pos (show j < p by omega)]
      exact ha j h1 (by omega)
    by_cases c3 : i ≤ q
    · simp only [putP, if_neg c1, if_neg c2, if_pos c3] at hi
      have hx := A.le _ _ hi
      by_cases d1 : j < p
      · simp only [putP, if_pos d1]
        exact A.lay _ _ hi j h1 (by omega)
      by_cases d2 : j = p
      · simp only [putP, if_neg d1, if_pos d2]
        refine ⟨k, rfl, ?_⟩
        subst d2
        obtain ⟨y, hy⟩ := hf j (Nat.le_refl _) (by omega)
        by_cases d3 : i - 1 = j
        · rw [d3] at hi; exact kp x hi
        · obtain ⟨z, hz, c⟩ := A.lay _ _ hi j h1 (by omega)
          exact lt_tr (kp z hz) c
      · simp only [putP, if_neg d1, if_neg d2, if_pos (show j ≤ q by omega)]
        by_cases d3 : o x ≤ j - 1
        · exact A.lay _ _ hi (j - 1) d3 (by omega)
        · obtain ⟨y, hy⟩ := hf (j - 1) (by omega) (by omega)
          exact ⟨y, hy, .inl (by have := A.le _ _ hy; omega)⟩
    · simp only [putP, if_neg c1, if_neg c2, if_neg c3] at hi
      have : q < o x := by
        refine Nat.lt_of_not_le fun c => ?_
        obtain ⟨y, hy, _⟩ := A.lay _ _ hi q c (by omega)
        rw [hq] at hy; cases hy
      simp only [putP, if_neg (show ¬ j < p by omega), if_neg (show ¬ j = p by omega), if_neg (show ¬ j ≤ q by omega)]
      exact A.lay _ _ hi j h1 h2
theorem has_put {f : Nat → Option Int} {k : Int} {p q : Nat} (hpq : p ≤ q) (hq : f q = none) (x : Int) : has (putP f k p q) x ↔ x = k ∨ has f x := by
  constructor
  · rintro ⟨i, hi⟩
    unfold putP at hi
    split at hi
    · exact .inr ⟨_, hi⟩
    · split at hi
      · cases hi; exact .inl rfl
      · split at hi
        · exact .inr ⟨_, hi⟩
        · exact .inr ⟨_, hi⟩
  · rintro (rfl | ⟨i, hi⟩)
    · exact ⟨p, by simp [putP]⟩
    · by_cases c1 : i < p
      · exact ⟨i, by simp only [putP, if_pos c1]; exact hi⟩
      by_cases c2 : i < q
      · exact ⟨i + 1, by simp only [putP, if_neg (show ¬ i + 1 < p by omega), if_neg (show ¬ i + 1 = p by omega), if_pos (show i + 1 ≤ q by omega)]; exact hi⟩
      have c3 : i ≠ q := fun z => by rw [z, hq] at hi; cases hi
      exact ⟨i, by simp only [putP, if_neg (show ¬ i < p by omega), if_neg (show ¬ i = p by omega), if_neg (show ¬ i ≤ q by omega)]; exact hi⟩
noncomputable def dropF (f : Nat → Option Int) (p r i : Nat) : Option Int := if i < p then f i else if i < r then f (i + 1) else if i = r then none else f i
end Ly
set_option linter.all false
namespace Ly
theorem pigeon : ∀ (m : Nat) (φ : Nat → Nat), (∀ i, i ≤ m → φ i < m) → (∀ i j, i ≤ m → j ≤ m → φ i = φ j → i = j) → False
  | 0, φ, h, _ => absurd (h 0 (Nat.le_refl _)) (Nat.not_lt_zero _)
  | m + 1, φ, h, inj => by
    refine pigeon m (fun i => if φ i = m then φ (m + 1) else φ i) (fun i hi => ?_) (fun i j hi hj e => ?_)
    · have h1 := h i (by omega)
      have h2 := h (m + 1) (Nat.le_refl _)
      by_cases c : φ i = m
      · rw [if_pos c]
        have : φ (m + 1) ≠ m := fun z => by
          have := inj i (m + 1) (by omega) (Nat.le_refl _) (by omega)
          omega
        omega
      · rw [if_neg c]; omega
    · have k1 : φ i ≠ φ (m + 1) := fun z => by have := inj i (m + 1) (by omega) (Nat.le_refl _) z; omega
      have k2 : φ j ≠ φ (m + 1) := fun z => by have := inj j (m + 1) (by omega) (Nat.le_refl _) z; omega
      by_cases c : φ i = m
      · by_cases d : φ j = m
        · exact inj i j (by omega) (by omega) (by omega)
        · rw [if_pos c, if_neg d] at e; exact absurd e.symm k2
      · by_cases d : φ j = m
        · rw [if_neg c, if_pos d] at e; exact absurd e k1
        · rw [if_neg c, if_neg d] at e; exact inj i j (by omega) (by omega) e
theorem run_start (g : Nat → Option Int) : ∀ m, (∃ k, g m = some k) → ∃ a, a ≤ m ∧ (∀ j, a ≤ j → j ≤ m → ∃ k, g j = some k) ∧ (a = 0 ∨ g (a - 1) = none)
  | 0, h => ⟨0, Nat.le_refl _, fun j _ hj => by have : j = 0 := by omega
                                                subst this; exact h, .inl rfl⟩
  | m + 1, h => by
    cases e : g m with
    | none => exact ⟨m + 1, Nat.le_refl _, fun j h1 h2 => by have : j = m + 1 := by omega
                                                             subst this; exact h, .inr e⟩
    | some k =>
      obtain ⟨a, h1, h2, h3⟩ := run_start g m ⟨k, e⟩
      refine ⟨a, by omega, fun j h4 h5 => ?_, h3⟩
      by_cases c : j = m + 1
      · subst c; exact h
      · exact h2 j h4 (by omega)
noncomputable def hasR (n : Nat) (F : Nat → Option Int) (k : Int) : Prop := ∃ i, i < n ∧ F i = some k
theorem has_lin {n e : Nat} {F : Nat → Option Int} (he : e < n) (k : Int) : has (lin n e F) k ↔ hasR n F k := by
  constructor
  · rintro ⟨i, hi⟩
    obtain ⟨a, b⟩ := lin_lt hi
    exact ⟨_, rho_lt he a, b⟩
  · rintro ⟨i, hi, hk⟩
    exact ⟨off n e i, by rw [lin_at (off_lt he hi), rho_off he hi]; exact hk⟩
section
variable {n : Nat} {h : Int → Nat} {F G : Nat → Option Int}
theorem off_low {n e e' p a m t i : Nat} (he : e < n) (he' : e' < n) (hp : p < n) (hm0 : off n e' e = m) (o1 : off n e' p ≤ a + t) (o2 : a ≤ off n e' p) (o3 : off n e p ≤ i) (ht : a + t ≤ m) (hin : i < n) : n - 1 - (m - a) ≤ i := by
  obtain ⟨x1, x2⟩ := off_is he' he
  obtain ⟨y1, y2⟩ := off_is he' hp
  obtain ⟨z1, z2⟩ := off_is he hp
  rw [hm0] at x1 x2
  generalize off n e' p = y at *
  generalize off n e p = z at *
  clear hm0 he he'
  omega
theorem lay_empty (A : IsLay n h F) (B : IsLay n h G) (hh : ∀ k, h k < n) (s : ∀ k, hasR n G k → hasR n F k) {e e' : Nat} (he : e < n) (hF : F e = none) (he' : e' < n) (hG : G e' = none) : G e = none := by
  cases c : G e with
  | none => rfl
  | some k0 =>
    exfalso
    have LB := B.lin he' hG hh
    have LA := A.lin he hF hh
    have hm : lin n e' G (off n e' e) = some k0 := by rw [lin_at (off_lt he' he), rho_off he' he]; exact c
    have hmn := off_lt he' he
    generalize hm0 : off n e' e = m at hm hmn
    obtain ⟨a, ha, run, st⟩ := run_start (lin n e' G) m ⟨k0, hm⟩
    have key : ∀ t, t ≤ m - a → ∃ k i, lin n e' G (a + t) = some k ∧ lin n e F i = some k ∧ n - 1 - (m - a) ≤ i ∧ i < n - 1 := fun t ht => by
      obtain ⟨k, hk⟩ := run (a + t) (by omega) (by omega)
      have o1 := LB.le _ _ hk
      have o2 : a ≤ off n e' (h k) := by
        refine Nat.le_of_not_lt fun z => ?_
        obtain ⟨y, hy, _⟩ := LB.lay _ _ hk (a - 1) (by omega) (by omega)
        rcases st with q | q
        · omega
        · rw [q] at hy; cases hy
      obtain ⟨i, hi⟩ := (has_lin he k).mpr (s k ((has_lin he' k).mp ⟨_, hk⟩))
      have o3 := LA.le _ _ hi
      obtain ⟨hin, hi'⟩ := lin_lt hi
      refine ⟨k, i, hk, hi, ?_, ?_⟩
      · exact off_low he he' (hh k) hm0 o1 o2 o3 (by omega) hin
      · have : i ≠ n - 1 := fun z => by rw [z, rho_last he, hF] at hi'; cases hi'
        omega
    have hn : a < n := by omega
    refine pigeon (m - a) (fun t => if ht : t ≤ m - a then (Classical.choose (Classical.choose_spec (key t ht))) - (n - 1 - (m - a)) else 0) (fun t ht => ?_) (fun t u ht hu q => ?_)
    · obtain ⟨_, _, h3, h4⟩ := Classical.choose_spec (Classical.choose_spec (key t ht))
      simp only [ht, dif_pos]
      omega
    · obtain ⟨g1, g2, g3, g4⟩ := Classical.choose_spec (Classical.choose_spec (key t ht))
      obtain ⟨k1, k2, k3, k4⟩ := Classical.choose_spec (Classical.choose_spec (key u hu))
      simp only [ht, hu, dif_pos] at q
      have q' : Classical.choose (Classical.choose_spec (key t ht)) = Classical.choose (Classical.choose_spec (key u hu)) := by omega
      rw [q', k2] at g2
      have := Option.some.inj g2
      rw [← this] at g1
      have := LB.inj _ _ _ g1 k1
      omega
theorem lay_one (A : IsLay n h F) (B : IsLay n h G) (hh : ∀ k, h k < n) (s : ∀ k, hasR n G k ↔ hasR n F k) {e e' : Nat} (he : e < n) (hF : F e = none) (he' : e' < n) (hG : G e' = none) : ∀ i, i < n → F i = G i := by
  have hG' := lay_empty A B hh (fun k => (s k).mp) he hF he' hG
  have := (A.lin he hF hh).one (B.lin he hG' hh) (fun k => by rw [has_lin he, has_lin he]; exact (s k).symm)
  intro i hi
  have q := this (off n e i)
  rw [lin_at (off_lt he hi), lin_at (off_lt he hi), rho_off he hi] at q
  exact q
end
end Ly
set_option linter.all false
namespace Ly
noncomputable def sumTo : Nat → (Nat → Int) → Int
  | 0, _ => 0
  | n + 1, f => sumTo n f + f n
theorem sumTo_congr : ∀ {n : Nat} {f g : Nat → Int}, (∀ i, i < n → f i = g i) → sumTo n f = sumTo n g
  | 0, _, _, _ => rfl
  | n + 1, f, g, h => by rw [sumTo, sumTo, sumTo_congr (fun i hi => h i (by omega)), h n (by omega)]
theorem sumTo_add (a : Nat) (f : Nat → Int) : ∀ b, sumTo (a + b) f = sumTo a f + sumTo b (fun i => f (a + i))
  | 0 => by simp [sumTo]
  | b + 1 => by rw [← Nat.add_assoc, sumTo, sumTo, sumTo_add a f b, Int.add_assoc]
theorem sumTo_rot {n e : Nat} (he : e < n) (g : Nat → Int) : sumTo n (fun i => g (off n e i)) = sumTo n g := by
  have e1 : n = (e + 1) + (n - e - 1) := by omega
  have e2 : n = (n - e - 1) + (e + 1) := by omega
  have l : sumTo n (fun i => g (off n e i)) = sumTo (e + 1) (fun i => g (n - e - 1 + i)) + sumTo (n - e - 1) g := by
    have := sumTo_add (e + 1) (fun i => g (off n e i)) (n - e - 1)
    rw [← e1] at this
    rw [this]
    congr 1
    · refine sumTo_congr fun i hi => ?_
      show g (off n e i) = _
      congr 1
      unfold off; split <;> omega
    · refine sumTo_congr fun i hi => ?_
      show g (off n e (e + 1 + i)) = _
      congr 1
      unfold off; split <;> omega
  have r : sumTo n g = sumTo (n - e - 1) g + sumTo (e + 1) (fun i => g (n - e - 1 + i)) := by
    have := sumTo_add (n - e - 1) g (e + 1)
    rw [← e2] at this
    exact this
  rw [l, r, Int.add_comm]
theorem sumTo_upd : ∀ {n p : Nat} {f : Nat → Int} {v : Int}, p < n → sumTo n (fun i => if i = p then v else f i) = sumTo n f - f p + v
  | n + 1, p, f, v, hp => by
    rw [sumTo, sumTo]
    by_cases c : n = p
    · subst c
      rw [if_pos rfl, sumTo_congr (g := f) (fun i hi => by rw [if_neg (by omega)])]
      omega
    · rw [if_neg c, sumTo_upd (by omega)]
      omega
noncomputable def wl (o : Int → Nat) (f : Nat → Option Int) (i : Nat) : Int := match f i with | some k => (i : Int) - o k | none => 0
theorem sum_put {o : Int → Nat} {N : Nat} : ∀ (d : Nat) {f : Nat → Option Int} {k : Int} {p q : Nat}, q = p + d → q < N → f q = none → (∀ j, p ≤ j → j < q → ∃ y, f j = some y) → sumTo N (wl o (putP f k p q)) = sumTo N (wl o f) + ((q : Int) - o k)
  | 0, f, k, p, q, hd, hq, hn, hf => by
    have : q = p := by omega
    subst this
    have e : ∀ i, i < N → wl o (putP f k q q) i = if i = q then (q : Int) - o k else wl o f i := fun i _ => by
      unfold wl putP
      by_cases c1 : i < q
      · rw [if_pos c1, if_neg (by omega)]
      by_cases c2 : i = q
      · rw [if_neg c1, if_pos c2, if_pos c2, c2]
      · rw [if_neg c1, if_neg c2, if_neg (by omega), if_neg c2]
    rw [sumTo_congr e, sumTo_upd hq]
    have z : wl o f q = 0 := by unfold wl; rw [hn]
    omega
  | d + 1, f, k, p, q, hd, hq, hn, hf => by
    obtain ⟨k', hk'⟩ := hf p (Nat.le_refl _) (by omega)
    have e : putP f k p q = putP (fun i => if i = p then some k else f i) k' (p + 1) q := by
      funext i
      unfold putP
      by_cases c1 : i < p
      · rw [if_pos c1, if_pos (by omega)]; exact (if_neg (by omega)).symm
      by_cases c2 : i = p
      · rw [if_neg c1, if_pos c2, if_pos (by omega)]; exact (if_pos c2).symm
      by_cases c3 : i = p + 1
      · rw [if_neg c1, if_neg c2, if_pos (by omega), if_neg (by omega), if_pos c3, c3, Nat.add_sub_cancel]; exact hk'
      by_cases c4 : i ≤ q
      · rw [if_neg c1, if_neg c2, if_pos c4, if_neg (by omega), if_neg c3, if_pos c4]; exact (if_neg (by omega)).symm
      · rw [if_neg c1, if_neg c2, if_neg c4, if_neg (by omega), if_neg c3, if_neg c4]; exact (if_neg (by omega)).symm
    rw [e, sum_put d (k := k') (p := p + 1) (q := q) (by omega) hq (by rw [if_neg (by omega)]; exact hn) (fun j h1 h2 => by rw [if_neg (by omega)]; exact hf j (by omega) h2)]
    have e2 : ∀ i, i < N → wl o (fun i => if i = p then some k else f i) i = if i = p then (p : Int) - o k else wl o f i := fun i _ => by
      unfold wl
      by_cases c : i = p
      · subst c; simp
      · simp only [if_neg c]
    rw [sumTo_congr e2, sumTo_upd (by omega)]
    have z : wl o f p = (p : Int) - o k' := by unfold wl; rw [hk']
    omega
structure FirstE (n : Nat) (F : Nat → Option Int) (s q : Nat) : Prop where
  lt : q < n
  no : F q = none
  all : ∀ j, j < n → dist n s j < dist n s q → ∃ y, F j = some y
theorem dist_is {n s a : Nat} (hs : s < n) : s + dist n s a = a ∨ (a < s ∧ s + dist n s a = a + n) := by
  unfold dist
  by_cases c : s ≤ a
  · rw [if_pos c]; exact .inl (Nat.add_sub_cancel' c)
  · rw [if_neg c]; exact .inr ⟨Nat.lt_of_not_le c, Nat.add_sub_cancel' (Nat.le_trans (Nat.le_of_lt hs) (Nat.le_add_left _ _))⟩
theorem dist_inj {n s a b : Nat} (hs : s < n) (ha : a < n) (hb : b < n) (h : dist n s a = dist n s b) : a = b := by
  have h1 := dist_is (a := a) hs
  have h2 := dist_is (a := b) hs
  rw [h] at h1
  clear hs h
  generalize dist n s b = d at h1 h2
  rcases h1 with h1 | ⟨_, h1⟩ <;> rcases h2 with h2 | ⟨_, h2⟩
  · exact h1.symm.trans h2
  · omega
  · omega
  · exact Nat.add_right_cancel (h1.symm.trans h2)
theorem FirstE.one {n : Nat} {F G : Nat → Option Int} {s q q' : Nat} (hs : s < n) (A : FirstE n F s q) (B : FirstE n G s q') (hFG : ∀ i, i < n → (F i = none ↔ G i = none)) : q = q' := by
  by_cases c : dist n s q < dist n s q'
  · obtain ⟨y, hy⟩ := B.all q A.lt c
    rw [(hFG q A.lt).mp A.no] at hy; cases hy
  by_cases c' : dist n s q' < dist n s q
  · obtain ⟨y, hy⟩ := A.all q' B.lt c'
    rw [(hFG q' B.lt).mpr B.no] at hy; cases hy
  exact dist_inj hs A.lt B.lt (by omega)
theorem dist_off {n e s j : Nat} (he : e < n) (hs : s < n) (hj : j < n) (h : off n e s ≤ off n e j) : dist n s j = off n e j - off n e s := by
  have := dist_rho he (off_lt he hs) (off_lt he hj)
  rw [rho_off he hs, rho_off he hj, if_pos h] at this
  exact this
theorem dist_off' {n e s j : Nat} (he : e < n) (hs : s < n) (hj : j < n) (h : off n e j < off n e s) : dist n s j = off n e j + n - off n e s := by
  have := dist_rho he (off_lt he hs) (off_lt he hj)
  rw [rho_off he hs, rho_off he hj, if_neg (by omega)] at this
  exact this
theorem FirstE.of {n e : Nat} {F : Nat → Option Int} {s q : Nat} (he : e < n) (hs : s < n) (h1 : off n e s ≤ q) (h2 : q < n) (h3 : lin n e F q = none) (h4 : ∀ j, off n e s ≤ j → j < q → ∃ y, lin n e F j = some y) : FirstE n F s (rho n e q) := by
  refine ⟨rho_lt he h2, by rw [← lin_at (e := e) (F := F) h2]; exact h3, fun j hj hd => ?_⟩
  have d1 := dist_off he hs (rho_lt he h2) (by rw [off_rho he h2]; exact h1)
  rw [off_rho he h2] at d1
  have hs' := off_lt he hs
  by_cases c : off n e s ≤ off n e j
  · have d2 := dist_off he hs hj c
    obtain ⟨y, hy⟩ := h4 (off n e j) c (by omega)
    rw [lin_at (off_lt he hj), rho_off he hj] at hy
    exact ⟨y, hy⟩
  · have d2 := dist_off' he hs hj (by omega)
    have := off_lt he hj
    omega
noncomputable def ways (n : Nat) (h : Int → Nat) (F : Nat → Option Int) : Int := sumTo n fun i => match F i with | some k => (dist n (h k) i : Int) | none => 0
theorem ways_lin {n e : Nat} {h : Int → Nat} {F : Nat → Option Int} (he : e < n) (hh : ∀ k, h k < n) (L : Lin (fun k => off n e (h k)) (lin n e F)) : ways n h F = sumTo n (wl (fun k => off n e (h k)) (lin n e F)) := by
  rw [← sumTo_rot he]
  refine sumTo_congr fun i hi => ?_
  unfold wl
  have q : lin n e F (off n e i) = F i := by rw [lin_at (off_lt he hi), rho_off he hi]
  rw [q]
  cases c : F i with
  | none => rfl
  | some k =>
    have l := L.le (off n e i) k (by rw [q]; exact c)
    show ((dist n (h k) i : Nat) : Int) = (off n e i : Int) - (off n e (h k) : Int)
    have l' : off n e (h k) ≤ off n e i := l
    rw [dist_off he (hh k) hi l']
    omega
theorem ways_set {n : Nat} {h : Int → Nat} {F : Nat → Option Int} {q : Nat} {k : Int} (hq : q < n) (hn : F q = none) : ways n h (fun i => if i = q then some k else F i) = ways n h F + dist n (h k) q := by
  unfold ways
  have e : ∀ i, i < n → (match (if i = q then some k else F i) with | some k => (dist n (h k) i : Int) | none => 0) = if i = q then (dist n (h k) q : Int) else (match F i with | some k => (dist n (h k) i : Int) | none => 0) := fun i _ => by
    by_cases c : i = q
    · subst c; simp
    · simp only [if_neg c]
  rw [sumTo_congr e, sumTo_upd hq]
  simp only [hn]
  omega
noncomputable def ringF (n e : Nat) (f : Nat → Option Int) (i : Nat) : Option Int := f (off n e i)
theorem lin_ring {n e : Nat} {f : Nat → Option Int} (he : e < n) (hf : ∀ i, n ≤ i → f i = none) : lin n e (ringF n e f) = f := by
  funext i
  by_cases c : i < n
  · rw [lin_at c]; unfold ringF; rw [off_rho he c]
  · unfold lin; rw [if_neg c, hf i (by omega)]
theorem lin_out {n e : Nat} {F : Nat → Option Int} {i : Nat} (h : n ≤ i) : lin n e F i = none := by unfold lin; rw [if_neg (by omega)]
section
variable {n e : Nat} {h : Int → Nat} {F : Nat → Option Int} {k : Int} {p q : Nat}
theorem put_out (hpq : p ≤ q) (hq : q < n) : ∀ i, n ≤ i → putP (lin n e F) k p q i = none := fun i hi => by
  unfold putP
  rw [if_neg (by omega), if_neg (by omega), if_neg (by omega), lin_out hi]
theorem ring_put (L : IsLay n h F) (he : e < n) (hF : F e = none) (hh : ∀ k, h k < n) (hk : ¬ hasR n F k) (h1 : off n e (h k) ≤ p) (h2 : ∀ j, off n e (h k) ≤ j → j < p → ∃ y, lin n e F j = some y ∧ lt (fun k => off n e (h k)) y k)
    (h3 : ∀ y, lin n e F p = some y → ¬ lt (fun k => off n e (h k)) y k) (h4 : p ≤ q) (h5 : ∀ j, p ≤ j → j < q → ∃ y, lin n e F j = some y) (h6 : lin n e F q = none) (h7 : q < n) :
    IsLay n h (ringF n e (putP (lin n e F) k p q)) ∧ (∀ x, hasR n (ringF n e (putP (lin n e F) k p q)) x ↔ x = k ∨ hasR n F x) ∧ FirstE n F (h k) (rho n e q) ∧
      (∀ i, i < n → (ringF n e (putP (lin n e F) k p q) i = none ↔ F i = none ∧ i ≠ rho n e q)) ∧ ways n h (ringF n e (putP (lin n e F) k p q)) = ways n h F + dist n (h k) (rho n e q) := by
  have LL := L.lin he hF hh
  have hk' : ¬ has (lin n e F) k := fun z => hk ((has_lin he k).mp z)
  have LP := LL.put hk' h1 h2 h3 h4 h5 h6
  have e0 := lin_ring (f := putP (lin n e F) k p q) he (put_out h4 h7)
  have LP' : Lin (fun k => off n e (h k)) (lin n e (ringF n e (putP (lin n e F) k p q))) := by rw [e0]; exact LP
  have FE : FirstE n F (h k) (rho n e q) := FirstE.of he (hh k) (Nat.le_trans h1 h4) h7 h6 fun j j1 j2 => by
    by_cases c : j < p
    · obtain ⟨y, hy, _⟩ := h2 j j1 c; exact ⟨y, hy⟩
    · exact h5 j (by omega) j2
  refine ⟨LP'.ring he hh, fun x => ?_, FE, fun i hi => ?_, ?_⟩
  · rw [← has_lin he, e0, has_put h4 h6, has_lin he]
  · have e1 : lin n e F (off n e i) = F i := by rw [lin_at (off_lt he hi), rho_off he hi]
    unfold ringF putP
    have e2 : i = rho n e q ↔ off n e i = q := by
      constructor
      · intro z; rw [z, off_rho he h7]
      · intro z; rw [← z, rho_off he hi]
    by_cases c1 : off n e i < p
    · rw [if_pos c1, e1]
      exact ⟨fun z => ⟨z, fun w => by have := e2.mp w; omega⟩, fun z => z.1⟩
    by_cases c2 : off n e i = p
    · rw [if_neg c1, if_pos c2]
      refine ⟨(fun z => nomatch z), fun ⟨z, w⟩ => ?_⟩
      by_cases c3 : p = q
      · exact absurd (e2.mpr (by omega)) w
      · obtain ⟨y, hy⟩ := h5 p (Nat.le_refl _) (by omega)
        rw [← c2, e1, z] at hy; cases hy
    by_cases c3 : off n e i ≤ q
    · rw [if_neg c1, if_neg c2, if_pos c3]
      obtain ⟨y, hy⟩ := h5 (off n e i - 1) (by omega) (by omega)
      rw [hy]
      refine ⟨(fun z => nomatch z), fun ⟨z, w⟩ => ?_⟩
      have c4 : off n e i ≠ q := fun z' => w (e2.mpr z')
      obtain ⟨y', hy'⟩ := h5 (off n e i) (by omega) (by omega)
      rw [e1, z] at hy'; cases hy'
    · rw [if_neg c1, if_neg c2, if_neg c3, e1]
      exact ⟨fun z => ⟨z, fun w => by have := e2.mp w; omega⟩, fun z => z.1⟩
  · rw [ways_lin he hh LP', e0, sum_put (q - p) (by omega) h7 h6 h5, ← ways_lin he hh LL, dist_off he (hh k) (rho_lt he h7) (by rw [off_rho he h7]; omega), off_rho he h7]
    omega
end
end Ly
set_option Elab.async false
set_option linter.all false
namespace Ly
noncomputable def wrun : List Nat → Nat → Nat
  | [], x => x
  | d :: ds, x => wrun ds (x + d - 1)
noncomputable def wtot : List Nat → Nat → Nat
  | [], _ => 0
  | d :: ds, x => (x + d - 1) + wtot ds (x + d - 1)
noncomputable def wod (ds : List Nat) : Nat := wtot ds (wrun ds 0)
theorem wrun_app : ∀ (a b : List Nat) (x : Nat), wrun (a ++ b) x = wrun b (wrun a x)
  | [], _, _ => rfl
  | d :: a, b, x => wrun_app a b (x + d - 1)
theorem wtot_app : ∀ (a b : List Nat) (x : Nat), wtot (a ++ b) x = wtot a x + wtot b (wrun a x)
  | [], b, x => by show _ = 0 + _; rw [Nat.zero_add]; rfl
  | d :: a, b, x => by
    show (x + d - 1) + wtot (a ++ b) (x + d - 1) = (x + d - 1) + wtot a (x + d - 1) + _
    rw [wtot_app a b, Nat.add_assoc]; rfl
theorem wrun_mono : ∀ (a : List Nat) {x y : Nat}, x ≤ y → wrun a x ≤ wrun a y
  | [], _, _, h => h
  | d :: a, x, y, h => wrun_mono a (by omega)
theorem wod_rot {a b : List Nat} (h : wrun (b ++ a) 0 = 0) : wod (a ++ b) = wtot (b ++ a) 0 := by
  rw [wrun_app] at h
  have h1 := wrun_mono a (Nat.zero_le (wrun b 0))
  rw [h] at h1
  have h0 : wrun a 0 = 0 := Nat.le_zero.mp h1
  unfold wod
  rw [wrun_app, h0, wtot_app, h, wtot_app, Nat.add_comm]
theorem sumTo_plus : ∀ {n : Nat} {f g : Nat → Int}, sumTo n f + sumTo n g = sumTo n fun i => f i + g i
  | 0, _, _ => rfl
  | n + 1, f, g => by
    show sumTo n f + f n + (sumTo n g + g n) = sumTo n (fun i => f i + g i) + (f n + g n)
    rw [← sumTo_plus]; omega
theorem sumTo_zero : ∀ {n : Nat}, sumTo n (fun _ => 0) = 0
  | 0 => rfl
  | n + 1 => by show sumTo n (fun _ => 0) + 0 = 0; rw [sumTo_zero]; rfl
theorem sumTo_one : ∀ {n j : Nat} {v : Int}, j < n → sumTo n (fun i => if i = j then v else 0) = v
  | n + 1, j, v, h => by
    show sumTo n (fun i => if i = j then v else 0) + (if n = j then v else 0) = v
    by_cases c : n = j
    · subst c
      rw [if_pos rfl, sumTo_congr (g := fun _ => 0) fun i hi => if_neg (by omega), sumTo_zero, Int.zero_add]
    · rw [if_neg c, sumTo_one (by omega), Int.add_zero]
theorem sumTo_nn : ∀ {n : Nat} {f : Nat → Int}, (∀ i, i < n → 0 ≤ f i) → 0 ≤ sumTo n f
  | 0, _, _ => Int.le_refl _
  | n + 1, f, h => Int.add_nonneg (sumTo_nn fun i hi => h i (by omega)) (h n (by omega))
theorem sumTo_swap (n : Nat) (g : Nat → Nat → Int) : ∀ m, sumTo m (fun j => sumTo n fun i => g i j) = sumTo n fun i => sumTo m fun j => g i j
  | 0 => by show (0 : Int) = sumTo n fun _ => 0; rw [sumTo_zero]
  | m + 1 => by
    show sumTo m (fun j => sumTo n fun i => g i j) + sumTo n (fun i => g i m) = sumTo n fun i => sumTo m (fun j => g i j) + g i m
    rw [sumTo_swap n g m, sumTo_plus]
theorem sumTo_span : ∀ {n a b : Nat}, a ≤ b → b ≤ n → sumTo n (fun j => if a ≤ j ∧ j < b then 1 else 0) = (b : Int) - a
  | 0, a, b, h1, h2 => by show (0 : Int) = _; omega
  | n + 1, a, b, h1, h2 => by
    show sumTo n (fun j => if a ≤ j ∧ j < b then 1 else 0) + (if a ≤ n ∧ n < b then 1 else 0) = _
    by_cases c : b ≤ n
    · rw [sumTo_span h1 c, if_neg (by omega)]; omega
    · have e : b = n + 1 := by omega
      subst e
      by_cases c2 : a ≤ n
      · rw [sumTo_congr (g := fun j => if a ≤ j ∧ j < n then 1 else 0) fun j hj => by
          by_cases c3 : a ≤ j
          · rw [if_pos ⟨c3, by omega⟩, if_pos ⟨c3, hj⟩]
          · rw [if_neg (by omega), if_neg (by omega)], sumTo_span c2 (Nat.le_refl _), if_pos ⟨c2, by omega⟩]; omega
      · rw [if_neg (by omega), sumTo_congr (g := fun _ => 0) fun j hj => if_neg (by omega), sumTo_zero]; omega
structure Cov (n : Nat) (occ : Nat → Bool) (s : Nat → Nat) : Prop where
  le : ∀ i, i < n → occ i = true → s i ≤ i
  cov : ∀ i j, i < n → occ i = true → s i ≤ j → j < i → occ j = true
noncomputable def PJ (n : Nat) (occ : Nat → Bool) (s : Nat → Nat) (j : Nat) : Int := sumTo n fun i => if occ i = true ∧ s i ≤ j ∧ j < i then 1 else 0
noncomputable def DJ (n : Nat) (occ : Nat → Bool) (s : Nat → Nat) (j : Nat) : Int := sumTo n fun i => if occ i = true ∧ s i = j then 1 else 0
section
variable {n : Nat} {occ : Nat → Bool} {s : Nat → Nat}
theorem PJ_nn (j : Nat) : 0 ≤ PJ n occ s j := sumTo_nn fun i _ => by split <;> decide
theorem DJ_nn (j : Nat) : 0 ≤ DJ n occ s j := sumTo_nn fun i _ => by split <;> decide
theorem pass_first (C : Cov n occ s) (h : 0 < n) : PJ n occ s 0 + (if occ 0 = true then 1 else 0) = DJ n occ s 0 := by
  rw [← sumTo_one (n := n) (j := 0) (v := if occ 0 = true then 1 else 0) h]
  unfold PJ DJ
  rw [sumTo_plus]
  refine sumTo_congr fun i hi => ?_
  by_cases ho : occ i = true
  · have := C.le i hi ho
    by_cases c : i = 0
    · subst c
      rw [if_neg (by omega), if_pos rfl, if_pos ho, if_pos ⟨ho, by omega⟩]; rfl
    · rw [if_neg c]
      by_cases c2 : s i = 0
      · rw [if_pos ⟨ho, by omega, by omega⟩, if_pos ⟨ho, c2⟩]; rfl
      · rw [if_neg (by omega), if_neg (fun z => c2 z.2)]; rfl
  · have e1 : ¬ (occ i = true ∧ s i ≤ 0 ∧ 0 < i) := fun z => ho z.1
    have e2 : ¬ (occ i = true ∧ s i = 0) := fun z => ho z.1
    rw [if_neg e1, if_neg e2]
    by_cases c : i = 0
    · subst c; rw [if_pos rfl, if_neg ho]; rfl
    · rw [if_neg c]; rfl
theorem pass_next (C : Cov n occ s) {j : Nat} (h : j + 1 < n) : PJ n occ s (j + 1) + (if occ (j + 1) = true then 1 else 0) = PJ n occ s j + DJ n occ s (j + 1) := by
  rw [← sumTo_one (n := n) (j := j + 1) (v := if occ (j + 1) = true then 1 else 0) h]
  unfold PJ DJ
  rw [sumTo_plus, sumTo_plus]
  refine sumTo_congr fun i hi => ?_
  by_cases ho : occ i = true
  · have := C.le i hi ho
    by_cases c : i = j + 1
    · subst c
      rw [if_neg (by omega), if_pos rfl, if_pos ho]
      by_cases c2 : s (j + 1) = j + 1
      · rw [if_neg (by omega), if_pos ⟨ho, c2⟩]
      · rw [if_pos ⟨ho, by omega, by omega⟩, if_neg (fun z => c2 z.2)]; rfl
    · rw [if_neg c]
      by_cases c2 : s i = j + 1
      · rw [if_pos ⟨ho, by omega, by omega⟩, if_neg (by omega), if_pos ⟨ho, c2⟩]; rfl
      · rw [if_neg (fun (z : occ i = true ∧ s i = j + 1) => c2 z.2)]
        by_cases c3 : s i ≤ j ∧ j < i
        · rw [if_pos ⟨ho, by omega, by omega⟩, if_pos ⟨ho, c3⟩]
        · rw [if_neg (fun z => c3 ⟨by omega, by omega⟩), if_neg (fun z => c3 z.2)]
  · have e1 : ¬ (occ i = true ∧ s i ≤ j + 1 ∧ j + 1 < i) := fun z => ho z.1
    have e2 : ¬ (occ i = true ∧ s i ≤ j ∧ j < i) := fun z => ho z.1
    have e3 : ¬ (occ i = true ∧ s i = j + 1) := fun z => ho z.1
    rw [if_neg e1, if_neg e2, if_neg e3]
    by_cases c : i = j + 1
    · subst c; rw [if_pos rfl, if_neg ho]
    · rw [if_neg c]
theorem pass_none (C : Cov n occ s) {j : Nat} (h : occ j ≠ true) : PJ n occ s j = 0 := by
  unfold PJ
  rw [sumTo_congr (g := fun _ => 0) fun i hi => if_neg fun z => h (C.cov i j hi z.1 z.2.1 z.2.2), sumTo_zero]
theorem pass_sum (C : Cov n occ s) : sumTo n (PJ n occ s) = sumTo n fun i => if occ i = true then (i : Int) - s i else 0 := by
  show sumTo n (fun j => sumTo n fun i => if occ i = true ∧ s i ≤ j ∧ j < i then 1 else 0) = _
  rw [sumTo_swap n (fun i j => if occ i = true ∧ s i ≤ j ∧ j < i then 1 else 0) n]
  refine sumTo_congr fun i hi => ?_
  by_cases ho : occ i = true
  · rw [if_pos ho, ← sumTo_span (n := n) (C.le i hi ho) (Nat.le_of_lt hi)]
    refine sumTo_congr fun j hj => ?_
    by_cases c : s i ≤ j ∧ j < i
    · rw [if_pos ⟨ho, c⟩, if_pos c]
    · rw [if_neg (fun z => c z.2), if_neg c]
  · rw [if_neg ho, sumTo_congr (g := fun _ => 0) fun j hj => if_neg fun z => ho z.1, sumTo_zero]
theorem pass_run (C : Cov n occ s) : ∀ m, m ≤ n → (m = 0 ∨ (wrun ((List.range m).map fun j => (DJ n occ s j).toNat) 0 : Int) = PJ n occ s (m - 1)) ∧ (wtot ((List.range m).map fun j => (DJ n occ s j).toNat) 0 : Int) = sumTo m (PJ n occ s)
  | 0, _ => ⟨.inl rfl, rfl⟩
  | m + 1, h => by
    obtain ⟨h1, h2⟩ := pass_run C m (by omega)
    have key : (((wrun ((List.range m).map fun j => (DJ n occ s j).toNat) 0 + (DJ n occ s m).toNat - 1 : Nat)) : Int) = PJ n occ s m := by
      have d0 := DJ_nn (n := n) (occ := occ) (s := s) m
      have p0 := PJ_nn (n := n) (occ := occ) (s := s) m
      have rc : PJ n occ s m + (if occ m = true then 1 else 0) = (wrun ((List.range m).map fun j => (DJ n occ s j).toNat) 0 : Int) + DJ n occ s m := by
        rcases h1 with rfl | h1
        · rw [pass_first C (by omega)]; show _ = (0 : Int) + _; omega
        · cases m with
          | zero => rw [pass_first C (by omega)]; show _ = (0 : Int) + _; omega
          | succ j =>
            rw [h1, pass_next C (by omega)]
            rfl
      by_cases ho : occ m = true
      · rw [if_pos ho] at rc; omega
      · rw [if_neg ho] at rc
        have := pass_none C ho
        omega
    rw [List.range_succ, List.map_append, wrun_app, wtot_app]
    refine ⟨.inr ?_, ?_⟩
    · show ((wrun ((List.range m).map fun j => (DJ n occ s j).toNat) 0 + (DJ n occ s m).toNat - 1 : Nat) : Int) = PJ n occ s m
      exact key
    · show ((wtot ((List.range m).map fun j => (DJ n occ s j).toNat) 0 + ((wrun ((List.range m).map fun j => (DJ n occ s j).toNat) 0 + (DJ n occ s m).toNat - 1) + 0) : Nat) : Int) = sumTo m (PJ n occ s) + PJ n occ s m
      rw [Nat.add_zero, Int.natCast_add, h2, key]
end
end Ly
set_option Elab.async false
set_option linter.all false
namespace Ly
noncomputable def hcn (n : Nat) (h : Int → Nat) (F : Nat → Option Int) (p : Nat) : Nat := (sumTo n fun i => match F i with | some k => if h k = p then 1 else 0 | none => 0).toNat
noncomputable def occF (f : Nat → Option Int) (i : Nat) : Bool := (f i).isSome
noncomputable def srcF (o : Int → Nat) (f : Nat → Option Int) (i : Nat) : Nat := match f i with | some k => o k | none => 0
theorem lin_cov {o : Int → Nat} {f : Nat → Option Int} (L : Lin o f) (n : Nat) : Cov n (occF f) (srcF o f) where
  le := fun i _ ho => by
    obtain ⟨k, hk⟩ := Option.isSome_iff_exists.mp ho
    have := L.le i k hk
    unfold srcF; rw [hk]; exact this
  cov := fun i j _ ho h1 h2 => by
    obtain ⟨k, hk⟩ := Option.isSome_iff_exists.mp ho
    unfold srcF at h1; rw [hk] at h1
    obtain ⟨y, hy, _⟩ := L.lay i k hk j h1 h2
    unfold occF; rw [hy]; rfl
theorem split_range (n m : Nat) (h : m ≤ n) (d : Nat → Nat) : (List.range n).map d = (List.range m).map d ++ (List.range (n - m)).map fun j => d (m + j) := by
  have e : n = m + (n - m) := by omega
  conv => lhs; rw [e, List.range_add, List.map_append, List.map_map]
  rfl
theorem wod_ring {n e : Nat} {h : Int → Nat} {F : Nat → Option Int} (he : e < n) (hF : F e = none) (hh : ∀ k, h k < n) (L : Lin (fun k => off n e (h k)) (lin n e F)) : (wod ((List.range n).map (hcn n h F)) : Int) = ways n h F := by
  have C := lin_cov L n
  obtain ⟨r1, r2⟩ := pass_run C n (Nat.le_refl _)
  have hl : occF (lin n e F) (n - 1) ≠ true := by
    unfold occF
    rw [lin_at (by omega), rho_last he, hF]
    decide
  have r0 : wrun ((List.range n).map fun j => (DJ n (occF (lin n e F)) (srcF (fun k => off n e (h k)) (lin n e F)) j).toNat) 0 = 0 := by
    rcases r1 with z | z
    · omega
    · rw [pass_none C hl] at z; exact Int.ofNat_inj.mp z
  have ed : ∀ j, j < n → (DJ n (occF (lin n e F)) (srcF (fun k => off n e (h k)) (lin n e F)) j).toNat = hcn n h F (rho n e j) := fun j hj => by
    unfold hcn DJ
    congr 1
    rw [← sumTo_rot he]
    refine sumTo_congr fun i hi => ?_
    have el : lin n e F (off n e i) = F i := by rw [lin_at (off_lt he hi), rho_off he hi]
    unfold occF srcF
    rw [el]
    cases F i with
    | none => rfl
    | some k =>
      show (if (some k).isSome = true ∧ off n e (h k) = j then (1 : Int) else 0) = if h k = rho n e j then 1 else 0
      by_cases c : h k = rho n e j
      · rw [if_pos c, if_pos ⟨rfl, by rw [c, off_rho he hj]⟩]
      · rw [if_neg c, if_neg fun z => c (by rw [← z.2, rho_off he (hh k)])]
  have edr : ((List.range n).map fun j => (DJ n (occF (lin n e F)) (srcF (fun k => off n e (h k)) (lin n e F)) j).toNat) = ((List.range (n - (e + 1))).map fun j => hcn n h F (e + 1 + j)) ++ (List.range (e + 1)).map (hcn n h F) := by
    rw [split_range n (n - (e + 1)) (by omega), show n - (n - (e + 1)) = e + 1 by omega]
    congr 1
    · refine List.map_congr_left fun j hj => ?_
      have hj' := List.mem_range.mp hj
      rw [ed j (by omega), rho_of (p := e + 1 + j) (by omega) (.inl rfl)]
    · refine List.map_congr_left fun j hj => ?_
      have hj' := List.mem_range.mp hj
      rw [ed _ (by omega), rho_of (p := j) (by omega) (.inr (by omega))]
  rw [edr] at r0 r2
  rw [split_range n (e + 1) (by omega) (hcn n h F), wod_rot r0, r2, pass_sum C, ways_lin he hh L]
  refine sumTo_congr fun i hi => ?_
  unfold occF srcF wl
  cases lin n e F i with
  | none => rfl
  | some k => rfl
end Ly
set_option Elab.async false
set_option linter.all false
namespace Ly
noncomputable def furs (x : List Nat) (room behind many : Nat) : List (List Nat) := (List.range (min room (many - x.sum) + 1 - (many - x.sum - behind))).map fun t => x ++ [many - x.sum - behind + t]
theorem mem_furs {x y : List Nat} {room behind many : Nat} : y ∈ furs x room behind many ↔ ∃ g, y = x ++ [g] ∧ many - x.sum - behind ≤ g ∧ g ≤ room ∧ g ≤ many - x.sum := by
  unfold furs
  rw [List.mem_map]
  constructor
  · rintro ⟨t, ht, rfl⟩
    have := List.mem_range.mp ht
    exact ⟨_, rfl, by omega, by omega, by omega⟩
  · rintro ⟨g, rfl, h1, h2, h3⟩
    refine ⟨g - (many - x.sum - behind), List.mem_range.mpr (by omega), ?_⟩
    rw [show many - x.sum - behind + (g - (many - x.sum - behind)) = g by omega]
theorem furs_len (x : List Nat) (room behind many : Nat) : (furs x room behind many).length ≤ room + 1 := by
  unfold furs
  rw [List.length_map, List.length_range]
  omega
noncomputable def alls (many : Nat) : List (List Nat) → Nat → List Nat → List (List Nat)
  | bg, _, [] => bg
  | bg, bh, r :: rs => alls many (bg.flatMap fun x => furs x r (bh - r) many) (bh - r) rs
noncomputable def Fit : List Nat → List Nat → Prop
  | [], [] => True
  | r :: rs, g :: z => g ≤ r ∧ Fit rs z
  | _, _ => False
theorem Fit.len : ∀ {rs z : List Nat}, Fit rs z → z.length = rs.length
  | [], [], _ => rfl
  | _ :: _, _ :: _, h => by rw [List.length_cons, List.length_cons, h.2.len]
theorem Fit.sum : ∀ {rs z : List Nat}, Fit rs z → z.sum ≤ rs.sum
  | [], [], _ => Nat.le_refl _
  | r :: rs, g :: z, h => by
    have := h.2.sum
    have := h.1
    rw [List.sum_cons, List.sum_cons]; omega
noncomputable def Beg (many bh : Nat) (x : List Nat) : Prop := x.sum ≤ many ∧ many ≤ x.sum + bh
theorem mem_alls {many : Nat} : ∀ (rs : List Nat) (bg : List (List Nat)) (bh : Nat), bh = rs.sum → (∀ x ∈ bg, Beg many bh x) → ∀ y, y ∈ alls many bg bh rs ↔ ∃ x ∈ bg, ∃ z, y = x ++ z ∧ Fit rs z ∧ x.sum + z.sum = many
  | [], bg, bh, hb, hx, y => by
    show y ∈ bg ↔ _
    constructor
    · intro hy
      obtain ⟨h1, h2⟩ := hx y hy
      rw [hb] at h2
      exact ⟨y, hy, [], by simp, trivial, by simp only [List.sum_nil] at h2 ⊢; omega⟩
    · rintro ⟨x, hx', z, rfl, hf, _⟩
      have := hf.len
      simp only [List.length_nil, List.length_eq_zero_iff] at this
      rw [this, List.append_nil]; exact hx'
  | r :: rs, bg, bh, hb, hx, y => by
    rw [List.sum_cons] at hb
    have e : bh - r = rs.sum := by omega
    have hx2 : ∀ x ∈ bg.flatMap (fun x => furs x r (bh - r) many), Beg many (bh - r) x := fun x' h' => by
      obtain ⟨x, hxb, hm⟩ := List.mem_flatMap.mp h'
      obtain ⟨g, rfl, g1, g2, g3⟩ := mem_furs.mp hm
      obtain ⟨h1, h2⟩ := hx x hxb
      unfold Beg
      rw [List.sum_append, List.sum_cons, List.sum_nil]
      omega
    show y ∈ alls many (bg.flatMap fun x => furs x r (bh - r) many) (bh - r) rs ↔ _
    rw [mem_alls rs _ (bh - r) e hx2 y]
    constructor
    · rintro ⟨x', h', z, rfl, hf, hs⟩
      obtain ⟨x, hxb, hm⟩ := List.mem_flatMap.mp h'
      obtain ⟨g, rfl, g1, g2, g3⟩ := mem_furs.mp hm
      refine ⟨x, hxb, g :: z, by rw [List.append_assoc]; rfl, ⟨g2, hf⟩, ?_⟩
      rw [List.sum_append, List.sum_cons, List.sum_nil] at hs
      rw [List.sum_cons]; omega
    · rintro ⟨x, hxb, z, rfl, hf, hs⟩
      match z, hf with
      | g :: z, hf =>
        obtain ⟨h1, h2⟩ := hx x hxb
        rw [List.sum_cons] at hs
        have := hf.2.sum
        refine ⟨x ++ [g], List.mem_flatMap.mpr ⟨x, hxb, mem_furs.mpr ⟨g, rfl, by omega, hf.1, by omega⟩⟩, z, by rw [List.append_assoc]; rfl, hf.2, ?_⟩
        rw [List.sum_append, List.sum_cons, List.sum_nil]; omega
theorem mem_all {many : Nat} {rs : List Nat} (h : many ≤ rs.sum) (y : List Nat) : y ∈ alls many [[]] rs.sum rs ↔ Fit rs y ∧ y.sum = many := by
  rw [mem_alls rs [[]] rs.sum rfl (fun x hx => by rw [List.mem_singleton.mp hx]; exact ⟨Nat.zero_le _, by simpa using h⟩)]
  constructor
  · rintro ⟨x, hx, z, rfl, hf, hs⟩
    rw [List.mem_singleton.mp hx] at hs ⊢
    exact ⟨hf, by simpa using hs⟩
  · rintro ⟨hf, hs⟩
    exact ⟨[], List.mem_singleton.mpr rfl, y, rfl, hf, by simpa using hs⟩
theorem flat_len {f : List Nat → List (List Nat)} {m : Nat} (h : ∀ x, (f x).length ≤ m) : ∀ bg : List (List Nat), (bg.flatMap f).length ≤ bg.length * m
  | [] => by simp
  | x :: bg => by
    rw [List.flatMap_cons, List.length_append, List.length_cons, Nat.add_mul, Nat.one_mul]
    have := flat_len h bg
    have := h x
    omega
end Ly
set_option Elab.async false
set_option linter.all false
namespace Ly
noncomputable def stepL (many : Nat) (b : List (List Nat) × Nat) (r : Nat) : List (List Nat) × Nat := (b.1.flatMap fun x => furs x r (b.2 - r) many, b.2 - r)
noncomputable def dst (many : Nat) (rs : List Nat) (i : Nat) : List (List Nat) × Nat := (rs.take i).foldl (stepL many) ([[]], rs.sum)
theorem dst_zero (many : Nat) (rs : List Nat) : dst many rs 0 = ([[]], rs.sum) := by unfold dst; rw [List.take_zero]; rfl
theorem dst_succ {many : Nat} {rs : List Nat} {i r : Nat} (h : rs[i]? = some r) : dst many rs (i + 1) = stepL many (dst many rs i) r := by
  obtain ⟨hi, e⟩ := List.getElem?_eq_some_iff.mp h
  unfold dst
  rw [List.take_succ_eq_append_getElem hi, List.foldl_append, e]
  rfl
theorem alls_fold (many : Nat) : ∀ (rs : List Nat) (bg : List (List Nat)) (bh : Nat), alls many bg bh rs = (rs.foldl (stepL many) (bg, bh)).1
  | [], bg, bh => rfl
  | r :: rs, bg, bh => by
    show alls many _ _ rs = _
    rw [alls_fold many rs]
    rfl
theorem dst_all (many : Nat) (rs : List Nat) : (dst many rs rs.length).1 = alls many [[]] rs.sum rs := by
  unfold dst
  rw [List.take_length, alls_fold]
theorem sum_take_drop (rs : List Nat) (i : Nat) : (rs.take i).sum + (rs.drop i).sum = rs.sum := by
  rw [← List.sum_append, List.take_append_drop]
theorem dst_bh {many : Nat} {rs : List Nat} : ∀ {i : Nat}, i ≤ rs.length → (dst many rs i).2 = (rs.drop i).sum
  | 0, _ => by rw [dst_zero, List.drop_zero]
  | i + 1, h => by
    obtain ⟨r, hr⟩ : ∃ r, rs[i]? = some r := ⟨_, List.getElem?_eq_getElem (by omega)⟩
    rw [dst_succ hr]
    show (dst many rs i).2 - r = _
    rw [dst_bh (by omega)]
    obtain ⟨hi, e⟩ := List.getElem?_eq_some_iff.mp hr
    rw [List.drop_eq_getElem_cons hi, e, List.sum_cons]
    omega
theorem dst_beg {many : Nat} {rs : List Nat} (h : many ≤ rs.sum) : ∀ {i : Nat}, i ≤ rs.length → ∀ x ∈ (dst many rs i).1, Beg many (dst many rs i).2 x ∧ x.length = i
  | 0, _, x, hx => by
    rw [dst_zero] at hx ⊢
    have e : x = [] := by simpa using hx
    subst e
    exact ⟨⟨Nat.zero_le _, by show many ≤ 0 + rs.sum; omega⟩, rfl⟩
  | i + 1, hi, x, hx => by
    obtain ⟨r, hr⟩ : ∃ r, rs[i]? = some r := ⟨_, List.getElem?_eq_getElem (by omega)⟩
    have hb := dst_bh (many := many) (rs := rs) (i := i) (by omega)
    rw [dst_succ hr] at hx ⊢
    obtain ⟨y, hy, hf⟩ := List.mem_flatMap.mp hx
    obtain ⟨⟨b1, b2⟩, b3⟩ := dst_beg h (by omega) y hy
    obtain ⟨g, rfl, g1, g2, g3⟩ := mem_furs.mp hf
    have hge : r ≤ (dst many rs i).2 := by
      rw [hb]
      obtain ⟨hi', e⟩ := List.getElem?_eq_some_iff.mp hr
      rw [List.drop_eq_getElem_cons hi', e, List.sum_cons]
      omega
    refine ⟨⟨?_, ?_⟩, by rw [List.length_append, b3]; rfl⟩
    · rw [List.sum_append]
      simp only [List.sum_cons, List.sum_nil]
      omega
    · show many ≤ (y ++ [g]).sum + ((dst many rs i).2 - r)
      rw [List.sum_append]
      simp only [List.sum_cons, List.sum_nil]
      omega
theorem succ_le_pow : ∀ r : Nat, r + 1 ≤ 2 ^ r
  | 0 => Nat.le_refl _
  | r + 1 => by
    have := succ_le_pow r
    rw [Nat.pow_succ]
    omega
theorem dst_len {many : Nat} {rs : List Nat} : ∀ {i : Nat}, i ≤ rs.length → (dst many rs i).1.length ≤ 2 ^ (rs.take i).sum
  | 0, _ => by rw [dst_zero, List.take_zero]; exact Nat.le_refl _
  | i + 1, hi => by
    obtain ⟨r, hr⟩ : ∃ r, rs[i]? = some r := ⟨_, List.getElem?_eq_getElem (by omega)⟩
    have ih := dst_len (many := many) (rs := rs) (i := i) (by omega)
    rw [dst_succ hr]
    obtain ⟨hi', e⟩ := List.getElem?_eq_some_iff.mp hr
    rw [List.take_succ_eq_append_getElem hi', List.sum_append, e]
    simp only [List.sum_cons, List.sum_nil, Nat.add_zero]
    rw [Nat.pow_add]
    exact Nat.le_trans (flat_len (fun x => furs_len x r _ many) _) (Nat.mul_le_mul ih (succ_le_pow r))
theorem dst_small {many m : Nat} {rs : List Nat} (h : rs.sum ≤ m) {i : Nat} (hi : i ≤ rs.length) : (dst many rs i).1.length ≤ 2 ^ m := by
  refine Nat.le_trans (dst_len hi) (Nat.pow_le_pow_right (by decide) ?_)
  have := sum_take_drop rs i
  omega
noncomputable def deal (n : Nat) (h : Int → Nat) (ks : List Int) : List Nat := (List.range n).map fun p => ks.countP fun k => decide (h k = p)
theorem deal_len (n : Nat) (h : Int → Nat) (ks : List Int) : (deal n h ks).length = n := by unfold deal; rw [List.length_map, List.length_range]
theorem deal_perm {n : Nat} {h : Int → Nat} {ks ks' : List Int} (p : ks.Perm ks') : deal n h ks = deal n h ks' := by
  unfold deal
  exact List.map_congr_left fun i _ => p.countP_eq _
theorem range_sum_one : ∀ (n j : Nat), ((List.range n).map fun p => if j = p then 1 else 0).sum = if j < n then 1 else 0
  | 0, j => by simp
  | n + 1, j => by
    rw [List.range_succ, List.map_append, List.sum_append, range_sum_one n j]
    simp only [List.map_cons, List.map_nil, List.sum_cons, List.sum_nil]
    by_cases c : j < n
    · rw [if_pos c, if_neg (by omega), if_pos (by omega)]
      rfl
    · by_cases c2 : j = n
      · rw [if_neg c, if_pos c2, if_pos (by omega)]
        rfl
      · rw [if_neg c, if_neg c2, if_neg (by omega)]
        rfl
theorem map_add_sum (f g : Nat → Nat) : ∀ l : List Nat, (l.map fun p => f p + g p).sum = (l.map f).sum + (l.map g).sum
  | [] => rfl
  | a :: l => by rw [List.map_cons, List.map_cons, List.map_cons, List.sum_cons, List.sum_cons, List.sum_cons, map_add_sum f g l]; omega
theorem deal_sum {n : Nat} {h : Int → Nat} (hh : ∀ k, h k < n) : ∀ ks : List Int, (deal n h ks).sum = ks.length
  | [] => by
    unfold deal
    have : ∀ l : List Nat, (l.map fun p => ([] : List Int).countP fun k => decide (h k = p)).sum = 0 := fun l => by induction l with
      | nil => rfl
      | cons a l ih => rw [List.map_cons, List.sum_cons, ih]; rfl
    exact this _
  | k :: ks => by
    have ih := deal_sum hh ks
    have e : deal n h (k :: ks) = (List.range n).map fun p => (ks.countP fun k => decide (h k = p)) + if h k = p then 1 else 0 := by
      unfold deal
      refine List.map_congr_left fun p _ => ?_
      rw [List.countP_cons]
      by_cases c : h k = p
      · rw [if_pos (decide_eq_true c), if_pos c]
      · rw [if_neg (by simpa using c), if_neg c]
    rw [e, map_add_sum, range_sum_one, if_pos (hh k)]
    unfold deal at ih
    rw [ih, List.length_cons]
theorem fit_of : ∀ (l : List Nat) (f g : Nat → Nat), (∀ p ∈ l, f p ≤ g p) → Fit (l.map g) (l.map f)
  | [], _, _, _ => trivial
  | a :: l, f, g, h => ⟨h a (List.mem_cons_self ..), fit_of l f g fun p hp => h p (List.mem_cons_of_mem _ hp)⟩
theorem deal_fit {n : Nat} {h : Int → Nat} {ks all : List Int} (s : ∃ r, (ks ++ r).Perm all) : Fit (deal n h all) (deal n h ks) := by
  obtain ⟨r, p⟩ := s
  rw [← deal_perm p]
  unfold deal
  refine fit_of _ _ _ fun i _ => ?_
  rw [List.countP_append]
  omega
end Ly
set_option Elab.async false
set_option linter.all false
set_option maxRecDepth 100000
set_option exponentiation.threshold 5000
namespace SC
open PySem L2 PyProof.Rows Ly
theorem home_range {r : Rl} (ok : r.Ok) {n : Nat} (hn : 0 < n) (k : Int) : 0 ≤ r.home k n ∧ r.home k n < n := by
  have hn' : (0 : Int) < n := by omega
  cases r with
  | times a b => exact ⟨Int.emod_nonneg _ (by omega), Int.emod_lt_of_pos _ hn'⟩
  | high a b =>
    have hp : (0 : Int) < 2 ^ b.toNat := Int.pow_pos (by decide)
    have h0 := Int.emod_nonneg (a * k) (b := 2 ^ b.toNat) (by omega)
    have h1 := Int.emod_lt_of_pos (a * k) hp
    show 0 ≤ a * k % 2 ^ b.toNat * n / 2 ^ b.toNat ∧ a * k % 2 ^ b.toNat * n / 2 ^ b.toNat < n
    generalize a * k % 2 ^ b.toNat = x at h0 h1
    refine ⟨Int.ediv_nonneg (Int.mul_nonneg h0 (by omega)) (by omega), ?_⟩
    refine Int.ediv_lt_of_lt_mul hp ?_
    rw [Int.mul_comm (n : Int)]
    exact Int.mul_lt_mul_of_pos_right h1 hn'
  | told ns => exact ⟨Int.emod_nonneg _ (by omega), Int.emod_lt_of_pos _ hn'⟩
noncomputable def hm (r : Rl) (n : Nat) (k : Int) : Nat := (r.home k n).toNat
theorem hm_eq {r : Rl} (ok : r.Ok) {n : Nat} (hn : 0 < n) (k : Int) : r.home k n = (hm r n k : Int) := by have := home_range ok hn k; unfold hm; omega
theorem hm_lt {r : Rl} (ok : r.Ok) {n : Nat} (hn : 0 < n) (k : Int) : hm r n k < n := by have := home_range ok hn k; unfold hm; omega
noncomputable def toV : Option Int → V
  | none => .non
  | some k => .int k
noncomputable def ringL (n : Nat) (F : Nat → Option Int) : List V := (List.range n).map fun i => toV (F i)
noncomputable def aheadB (n : Nat) (h : Int → Nat) (a b : Int) (p : Nat) : Bool := decide (dist n (h b) p < dist n (h a) p) || (decide (dist n (h a) p = dist n (h b) p) && decide (a < b))
structure RowOk (r : Rl) (n : Nat) (F : Nat → Option Int) : Prop where
  lay : IsLay n (hm r n) F
  keys : ∀ i k, i < n → F i = some k → 0 ≤ k ∧ k ≤ 999999
  e : ∃ e, e < n ∧ F e = none
noncomputable def RlIn (H : Hp) (v : V) (r : Rl) (n : Nat) : Prop := RlAt H v r ∧ r.Ok ∧ 2 ≤ n ∧ n ≤ 2000
noncomputable def spWayOf : Sp := fun vs H Q _ => ∃ (v : V) (r : Rl) (n p : Nat) (k : Int), vs = [v, .int k, .int p, .int n] ∧ RlIn H v r n ∧ (0 ≤ k ∧ k ≤ 999999) ∧ p < n ∧ Q (.int (dist n (hm r n k) p)) H
noncomputable def spAhead : Sp := fun vs H Q _ => ∃ (v : V) (r : Rl) (n p : Nat) (a b : Int), vs = [v, .int a, .int b, .int p, .int n] ∧ RlIn H v r n ∧ (0 ≤ a ∧ a ≤ 999999) ∧ (0 ≤ b ∧ b ≤ 999999) ∧ p < n ∧ Q (.bl (aheadB n (hm r n) a b p)) H
noncomputable def spLook : Sp := fun vs H Q _ => ∃ (v : V) (L : Addr) (r : Rl) (n e : Nat) (F : Nat → Option Int) (k : Int), vs = [v, .ref L, .int k] ∧ RlIn H v r n ∧ H L = some (.lst (ringL n F)) ∧ RowOk r n F ∧ e < n ∧ F e = none ∧ (0 ≤ k ∧ k ≤ 999999) ∧
  ∀ p, off n e (hm r n k) ≤ p → p < n → (∀ j, off n e (hm r n k) ≤ j → j < p → ∃ y, lin n e F j = some y ∧ lt (fun k => off n e (hm r n k)) y k) → (∀ y, lin n e F p = some y → ¬ lt (fun k => off n e (hm r n k)) y k) → Q (.int (rho n e p : Nat)) H
noncomputable def spStands : Sp := fun vs H Q _ => ∃ (v : V) (L : Addr) (r : Rl) (n : Nat) (F : Nat → Option Int) (k : Int), vs = [v, .ref L, .int k] ∧ RlIn H v r n ∧ H L = some (.lst (ringL n F)) ∧ RowOk r n F ∧ (0 ≤ k ∧ k ≤ 999999) ∧ ((hasR n F k → Q (.bl true) H) ∧ (¬ hasR n F k → Q (.bl false) H))
noncomputable def freeN (n : Nat) (F : Nat → Option Int) : Nat := (ringL n F).countP fun z => eqV z .non
noncomputable def spFull : Sp := fun vs H Q _ => ∃ (L : Addr) (n : Nat) (F : Nat → Option Int), vs = [.ref L] ∧ H L = some (.lst (ringL n F)) ∧ Q (.bl (decide (freeN n F ≤ 1))) H
structure PutOk (r : Rl) (n : Nat) (F : Nat → Option Int) (k : Int) (F' : Nat → Option Int) (q : Nat) : Prop where
  ok : RowOk r n F'
  has : ∀ x, hasR n F' x ↔ x = k ∨ hasR n F x
  fst : FirstE n F (hm r n k) q
  none_ : ∀ i, i < n → (F' i = none ↔ F i = none ∧ i ≠ q)
  ways : ways n (hm r n) F' = Ly.ways n (hm r n) F + dist n (hm r n k) q
noncomputable def spSettle : Sp := fun vs H Q _ => ∃ (v : V) (L : Addr) (r : Rl) (n : Nat) (F : Nat → Option Int) (k : Int), vs = [v, .ref L, .int k] ∧ RlIn H v r n ∧ H L = some (.lst (ringL n F)) ∧ RowOk r n F ∧ (0 ≤ k ∧ k ≤ 999999) ∧ ¬ hasR n F k ∧ 1 < freeN n F ∧
  ∀ F' q, PutOk r n F k F' q → Q .non (upd H L (.lst (ringL n F')))
theorem first_none (f : Nat → Option Int) : ∀ (d a N : Nat), N = a + d → f N = none → ∃ q, a ≤ q ∧ q ≤ N ∧ f q = none ∧ ∀ j, a ≤ j → j < q → ∃ y, f j = some y
  | 0, a, N, h, hN => ⟨a, Nat.le_refl _, by omega, by have : N = a := by omega
                                                      rw [← this]; exact hN, fun j h1 h2 => by omega⟩
  | d + 1, a, N, h, hN => by
    cases e : f a with
    | none => exact ⟨a, Nat.le_refl _, by omega, e, fun j h1 h2 => by omega⟩
    | some k =>
      obtain ⟨q, h1, h2, h3, h4⟩ := first_none f d (a + 1) N (by omega) hN
      refine ⟨q, by omega, h2, h3, fun j j1 j2 => ?_⟩
      by_cases c : j = a
      · rw [c]; exact ⟨k, e⟩
      · exact h4 j (by omega) j2
end SC
set_option Elab.async false
set_option linter.all false
set_option maxRecDepth 100000
set_option exponentiation.threshold 5000
namespace SC
open PySem L2 PyProof.Rows Ly
noncomputable def stg (f : Nat → Option Int) (k : Int) (p j i : Nat) : Option Int := if i < p then f i else if i < j then (if i = p then some k else f (i - 1)) else f i
noncomputable def car (f : Nat → Option Int) (k : Int) (p j : Nat) : Option Int := if j = p then some k else f (j - 1)
theorem row_new (r : Rl) {n : Nat} (hn : 0 < n) : RowOk r n (fun _ => none) := ⟨⟨(fun i j k _ _ h => nomatch h), (fun i k _ h => nomatch h)⟩, (fun i k _ h => nomatch h), 0, hn, rfl⟩
end SC
set_option Elab.async false
set_option linter.all false
set_option maxRecDepth 100000
set_option exponentiation.threshold 5000
namespace SC
open PySem L2 PyProof.Rows Ly S40
theorem first_stop (P : Nat → Prop) : ∀ (d a : Nat), P (a + d) → ∃ p, a ≤ p ∧ p ≤ a + d ∧ P p ∧ ∀ j, a ≤ j → j < p → ¬ P j
  | 0, a, h => ⟨a, Nat.le_refl _, Nat.le_refl _, h, fun j h1 h2 => by omega⟩
  | d + 1, a, h => by
    by_cases c : P a
    · exact ⟨a, Nat.le_refl _, by omega, c, fun j h1 h2 => by omega⟩
    · obtain ⟨p, h1, h2, h3, h4⟩ := first_stop P d (a + 1) (by rw [show a + 1 + d = a + (d + 1) by omega]; exact h)
      refine ⟨p, by omega, by omega, h3, fun j j1 j2 => ?_⟩
      by_cases e : j = a
      · rw [e]; exact c
      · exact h4 j (by omega) j2
theorem put_ex {r : Rl} {n : Nat} {F : Nat → Option Int} {k : Int} (rk : r.Ok) (hn : 0 < n) (ok : RowOk r n F) (hk : 0 ≤ k ∧ k ≤ 999999) (hno : ¬ hasR n F k) {e : Nat} {q0 : Nat} (hq0 : FirstE n F (hm r n k) q0) (he : e < n) (hF : F e = none) (hne : e ≠ q0) : ∃ F', PutOk r n F k F' q0 := by
  have hh := hm_lt rk hn
  have ho := off_lt he (hh k)
  have hlast : lin n e F (n - 1) = none := by rw [lin_at (by omega), rho_last he]; exact hF
  obtain ⟨p, p1, p2, p3, p4⟩ := first_stop (fun j => ∀ y, lin n e F j = some y → ¬ Ly.lt (fun k => off n e (hm r n k)) y k) (n - 1 - off n e (hm r n k)) (off n e (hm r n k)) (by
    rw [show off n e (hm r n k) + (n - 1 - off n e (hm r n k)) = n - 1 by omega]
    intro y hy; rw [hlast] at hy; cases hy)
  have p2' : p ≤ n - 1 := by omega
  have p4' : ∀ j, off n e (hm r n k) ≤ j → j < p → ∃ y, lin n e F j = some y ∧ Ly.lt (fun k => off n e (hm r n k)) y k := fun j j1 j2 => by
    refine Classical.byContradiction fun c => p4 j j1 j2 fun y hy hl => c ⟨y, hy, hl⟩
  obtain ⟨q, q1, q2, q3, q4⟩ := first_none (lin n e F) (n - 1 - p) p (n - 1) (by omega) hlast
  obtain ⟨g1, g2, g3, g4, g5⟩ := ring_put ok.lay he hF hh hno p1 p4' p3 q1 q4 q3 (by omega)
  have eq0 : rho n e q = q0 := g3.one (hh k) hq0 (fun _ _ => Iff.rfl)
  rw [eq0] at g3 g4 g5
  refine ⟨_, ⟨g1, fun i y hi hy => ?_, e, he, (g4 e he).mpr ⟨hF, hne⟩⟩, g2, g3, g4, g5⟩
  rcases (g2 y).mp ⟨i, hi, hy⟩ with z | ⟨i', hi', hy'⟩
  · rw [z]; exact hk
  · exact ok.keys i' y hi' hy'
noncomputable def asg (l : List (Int × Nat)) : Nat → Option Int := l.foldl (fun G p i => if i = p.2 then some p.1 else G i) (fun _ => none)
theorem asg_snoc (l : List (Int × Nat)) (p : Int × Nat) : asg (l ++ [p]) = fun i => if i = p.2 then some p.1 else asg l i := by unfold asg; rw [List.foldl_append]; rfl
noncomputable def hms (r : Rl) (n : Nat) (ks : List Int) : List Nat := ks.map (hm r n)
noncomputable def plc (r : Rl) (n : Nat) (ks : List Int) : List Nat := fps n [] (hms r n ks)
noncomputable def fcA (r : Rl) (n : Nat) (ks : List Int) : Nat → Option Int := asg (ks.zip (plc r n ks))
theorem plc_len (r : Rl) (n : Nat) (ks : List Int) : (plc r n ks).length = ks.length := by unfold plc hms; rw [fps_len, List.length_map]; simp
theorem plc_snoc (r : Rl) (n : Nat) (ks : List Int) (k : Int) : plc r n (ks ++ [k]) = plc r n ks ++ [(hm r n k + tt n (plc r n ks) (hm r n k)) % n] := by
  unfold plc hms; rw [List.map_append]; exact fps_snoc ..
theorem fcA_snoc (r : Rl) (n : Nat) (ks : List Int) (k : Int) : fcA r n (ks ++ [k]) = fun i => if i = (hm r n k + tt n (plc r n ks) (hm r n k)) % n then some k else fcA r n ks i := by
  unfold fcA
  rw [plc_snoc, List.zip_append (plc_len r n ks).symm]
  exact asg_snoc ..
theorem mod_dist {n a j : Nat} (ha : a < n) (hj : j < n) : j = (a + dist n a j) % n := by
  unfold dist
  by_cases c : a ≤ j
  · rw [if_pos c, show a + (j - a) = j by omega, Nat.mod_eq_of_lt hj]
  · rw [if_neg c, show a + (j + n - a) = j + n by omega, Nat.add_mod_right, Nat.mod_eq_of_lt hj]
theorem dist_mod {n a t : Nat} (ha : a < n) (ht : t < n) : dist n a ((a + t) % n) = t := by
  refine dist_of ?_
  by_cases c : a + t < n
  · exact .inl (Nat.mod_eq_of_lt c).symm
  · have e0 : (a + t) % n + n = a + t := by
      rw [Nat.mod_eq_sub_mod (Nat.le_of_not_lt c), Nat.mod_eq_of_lt (by omega)]
      exact Nat.sub_add_cancel (Nat.le_of_not_lt c)
    clear c
    exact .inr ⟨by omega, e0.symm⟩
theorem first_tt {n : Nat} {F : Nat → Option Int} {acc : List Nat} {s : Nat} (hs : s < n) (hl : acc.length < n) (h : ∀ i, i < n → (F i = none ↔ i ∉ acc)) : FirstE n F s ((s + tt n acc s) % n) := by
  obtain ⟨t1, t2, t3⟩ := tt_spec (s := n) (p := s) (acc := acc) hs hl
  refine ⟨Nat.mod_lt _ (by omega), (h _ (Nat.mod_lt _ (by omega))).mpr t2, fun j hj hd => ?_⟩
  rw [dist_mod hs (by omega)] at hd
  have hm := t1 _ hd
  rw [← mod_dist hs hj] at hm
  cases e : F j with
  | none => exact absurd hm ((h j hj).mp e)
  | some y => exact ⟨y, rfl⟩
theorem fc_lay {r : Rl} {n : Nat} (rk : r.Ok) (hn : 2 ≤ n) : ∀ (m : Nat) (ks : List Int), ks.length = m → m < n → ks.Nodup → (∀ k ∈ ks, 0 ≤ k ∧ k ≤ 999999) →
    ∃ F, RowOk r n F ∧ (∀ x, hasR n F x ↔ x ∈ ks) ∧ (∀ i, i < n → (F i = none ↔ i ∉ plc r n ks)) ∧ (∀ i, i < n → (fcA r n ks i = none ↔ i ∉ plc r n ks)) ∧ ways n (hm r n) (fcA r n ks) = ways n (hm r n) F ∧ (∀ i k, i < n → fcA r n ks i = some k → k ∈ ks) := by
  intro m
  induction m with
  | zero =>
    intro ks hl _ _ _
    have : ks = [] := List.eq_nil_of_length_eq_zero hl
    subst this
    refine ⟨fun _ => none, row_new r (by omega), (fun x => ⟨(fun ⟨i, _, h⟩ => nomatch h), (fun h => nomatch h)⟩), (fun i _ => ⟨(fun _ h => nomatch h), fun _ => rfl⟩), (fun i _ => ⟨(fun _ h => nomatch h), fun _ => rfl⟩), rfl, (fun i k _ h => nomatch h)⟩
  | succ m ih =>
    intro ks hl hm' nd hb
    obtain ⟨l, k, rfl⟩ : ∃ l k, ks = l ++ [k] := ⟨ks.dropLast, ks.getLast (fun z => by rw [z] at hl; cases hl), (List.dropLast_concat_getLast _).symm⟩
    have hll : l.length = m := by rw [List.length_append] at hl; simp only [List.length_cons, List.length_nil] at hl; omega
    rw [List.nodup_append] at nd
    obtain ⟨nd1, nd2, nd3⟩ := nd
    have hkl : k ∉ l := fun z => nd3 k z k (List.mem_singleton.mpr rfl) rfl
    obtain ⟨F, ok, hF1, hF2, hF3, hF4, hF5⟩ := ih l hll (by omega) nd1 (fun x hx => hb x (List.mem_append_left _ hx))
    have hkb := hb k (List.mem_append_right _ (List.mem_singleton.mpr rfl))
    have hh := hm_lt rk (show 0 < n by omega)
    have hpl : (plc r n l).length = m := by rw [plc_len, hll]
    have FE := first_tt (F := F) (acc := plc r n l) (hh k) (by omega) hF2
    obtain ⟨t1, t2, t3⟩ := tt_spec (s := n) (p := hm r n k) (acc := plc r n l) (hh k) (by omega)
    obtain ⟨e, he, hFe, hne⟩ : ∃ e, e < n ∧ F e = none ∧ e ≠ (hm r n k + tt n (plc r n l) (hm r n k)) % n := by
      refine Classical.byContradiction fun c => ?_
      have hall : ∀ i, i < n → i ≠ (hm r n k + tt n (plc r n l) (hm r n k)) % n → i ∈ plc r n l := fun i hi hne => Classical.byContradiction fun z => c ⟨i, hi, (hF2 i hi).mpr z, hne⟩
      have := len_sub (l := List.range n) (m := (hm r n k + tt n (plc r n l) (hm r n k)) % n :: plc r n l) List.nodup_range fun x hx => by
        by_cases cx : x = (hm r n k + tt n (plc r n l) (hm r n k)) % n
        · rw [cx]; exact List.mem_cons_self ..
        · exact List.mem_cons_of_mem _ (hall x (List.mem_range.mp hx) cx)
      rw [List.length_range, List.length_cons] at this
      omega
    obtain ⟨F', po⟩ := put_ex rk (by omega) ok hkb (fun z => hkl ((hF1 k).mp z)) FE he hFe hne
    refine ⟨F', po.ok, fun x => ?_, fun i hi => ?_, fun i hi => ?_, ?_, fun i y hi hy => ?_⟩
    · rw [po.has, hF1, List.mem_append, List.mem_singleton, Or.comm]
    · rw [po.none_ i hi, plc_snoc, List.mem_append, List.mem_singleton, hF2 i hi]
      exact ⟨fun ⟨a, b⟩ c => c.elim a b, fun c => ⟨fun z => c (.inl z), fun z => c (.inr z)⟩⟩
    · rw [fcA_snoc, plc_snoc, List.mem_append, List.mem_singleton]
      by_cases ci : i = (hm r n k + tt n (plc r n l) (hm r n k)) % n
      · simp [ci]
      · simp only [if_neg ci]
        rw [hF3 i hi]
        exact ⟨fun a c => c.elim a ci, fun c z => c (.inl z)⟩
    · rw [fcA_snoc, ways_set (Nat.mod_lt _ (by omega)) ((hF3 _ (Nat.mod_lt _ (by omega))).mpr t2), hF4, po.ways]
    · rw [fcA_snoc] at hy
      by_cases ci : i = (hm r n k + tt n (plc r n l) (hm r n k)) % n
      · simp only [if_pos ci, Option.some.injEq] at hy
        rw [← hy]; exact List.mem_append_right _ (List.mem_singleton.mpr rfl)
      · simp only [if_neg ci] at hy
        exact List.mem_append_left _ (hF5 i y hi hy)
theorem fc_row {r : Rl} {n : Nat} (rk : r.Ok) (hn : 2 ≤ n) {ks : List Int} (hl : ks.length < n) (nd : ks.Nodup) (hb : ∀ k ∈ ks, 0 ≤ k ∧ k ≤ 999999) {F : Nat → Option Int} (ok : RowOk r n F) (hF : ∀ x, hasR n F x ↔ x ∈ ks) :
    (∀ i, i < n → (F i = none ↔ fcA r n ks i = none)) ∧ ways n (hm r n) (fcA r n ks) = ways n (hm r n) F ∧ (∀ i k, i < n → fcA r n ks i = some k → 0 ≤ k ∧ k ≤ 999999) := by
  obtain ⟨F', ok', h1, h2, h3, h4, h5⟩ := fc_lay rk hn ks.length ks rfl hl nd hb
  obtain ⟨e, he, hFe⟩ := ok.e
  obtain ⟨e', he', hFe'⟩ := ok'.e
  have hh := hm_lt rk (show 0 < n by omega)
  have eq := lay_one ok.lay ok'.lay hh (fun k => by rw [h1, hF]) he hFe he' hFe'
  refine ⟨fun i hi => by rw [eq i hi, h2 i hi, h3 i hi], ?_, fun i k hi hk => hb k (h5 i k hi hk)⟩
  rw [h4]
  unfold ways
  exact sumTo_congr fun i hi => by rw [eq i hi]
noncomputable def goodKs (xs : List V) (ks : List Int) : Prop := xs = ks.map V.int ∧ ks.Nodup ∧ ∀ k ∈ ks, 0 ≤ k ∧ k ≤ 999999
noncomputable def spCheckKeys (cK : Addr) : Sp := fun vs H Q E => ∃ (p : Addr) (xs : List V), vs = [.ref p] ∧ H p = some (.lst xs) ∧ (∀ x ∈ xs, ∃ T, Kn H x T ∧ T ≠ .lst ∧ T ≠ .tup) ∧ xs.length ≤ 1000 ∧
  (∀ ks, goodKs xs ks → ∀ H', Same H H' → Q .non H') ∧ ((¬ ∃ ks, goodKs xs ks) → ∀ H', Same H H' → E (.ref cK) none H')
noncomputable def dki (ks : List Int) : List (Key × V) := ks.map fun k => (Sum.inl k, V.bl true)
theorem dki_val (k : Int) : ∀ ks : List Int, (valV (dki ks) (Sum.inl k)).isSome = decide (k ∈ ks)
  | [] => by simp [dki, valV]
  | q :: r => by
    have ih := dki_val k r
    unfold dki at ih ⊢
    rw [List.map_cons]
    by_cases c : q = k
    · subst c; rw [valV_pos rfl]; simp
    · rw [valV_neg (fun e => c (Sum.inl.inj e)), ih]
      have : k ≠ q := fun e => c e.symm
      simp [this]
theorem dki_put {k : Int} {ks : List Int} (h : k ∉ ks) : putK (dki ks) (Sum.inl k) (.bl true) = dki (ks ++ [k]) := by
  have e : valV (dki ks) (Sum.inl k) = none := by
    have := dki_val k ks
    rw [decide_eq_false h] at this
    cases e : valV (dki ks) (Sum.inl k) with
    | none => rfl
    | some v => rw [e] at this; cases this
  rw [putK_new _ e]
  unfold dki
  rw [List.map_append]
  rfl
structure RowAt (C : Addr) (H : Hp) (x L : Addr) (r : Rl) (n : Nat) (F : Nat → Option Int) : Prop where
  obj : ∃ dx v, H x = some (.ins C dx [("rule", v), ("places", .ref L)]) ∧ RlAt H v r
  pl : H L = some (.lst (ringL n F))
  rk : r.Ok
  n2 : 2 ≤ n ∧ n ≤ 2000
  ok : RowOk r n F
noncomputable def SameX (L : Addr) (H H' : Hp) : Prop := ∀ b u, b ≠ L → H b = some u → H' b = some u
noncomputable def spRowNew (C : Addr) (cR cZ : Addr) : Sp := fun vs H Q E => ∃ (x dx : Addr) (v z : V) (T : Ty6), vs = [.ref x, v, z] ∧ H x = some (.ins C dx []) ∧ Plain H v ∧ Kn H z T ∧
  (isRuleV H v = false → ∀ H', Same H H' → E (.ref cR) none H') ∧ (isRuleV H v = true → wholeV z 2 64 = false → ∀ H', Same H H' → E (.ref cZ) none H') ∧
  (∀ r n, RlAt H v r → r.Ok → z = .int (n : Nat) → 2 ≤ n → n ≤ 64 → ∀ L H', H L = none → SameX x H H' → RowAt C H' x L r n (fun _ => none) → Q .non H')
noncomputable def spPut (C : Addr) (cK cF : Addr) : Sp := fun vs H Q E => ∃ (x L : Addr) (r : Rl) (n : Nat) (F : Nat → Option Int) (kv : V) (T : Ty6), vs = [.ref x, kv] ∧ RowAt C H x L r n F ∧ Kn H kv T ∧
  (wholeV kv 0 999999 = false → E (.ref cK) none H) ∧ ∀ k, kv = .int k → (0 ≤ k ∧ k ≤ 999999) → (hasR n F k → Q (.bl false) H) ∧ (¬ hasR n F k → freeN n F ≤ 1 → E (.ref cF) none H) ∧
    (¬ hasR n F k → 1 < freeN n F → ∀ F' q, PutOk r n F k F' q → Q (.bl true) (upd H L (.lst (ringL n F'))))
noncomputable def spLay (C : Addr) : Sp := fun vs H Q _ => ∃ (x L : Addr) (r : Rl) (n : Nat) (F : Nat → Option Int), vs = [.ref x] ∧ RowAt C H x L r n F ∧ ∀ p, H p = none → Q (.ref p) (upd H p (.lst (ringL n F)))
end SC
namespace SC
open PySem L2 PyProof.Rows Ly S40
end SC
namespace SC
open PySem L2 PyProof.Rows Ly S40
noncomputable def spFirstC (cR cZ cK cF : Addr) : Sp := fun vs H Q E => ∃ (v z : V) (Tz : Ty6) (p : Addr) (xs : List V), vs = [v, z, .ref p] ∧ Plain H v ∧ Kn H z Tz ∧ H p = some (.lst xs) ∧ (∀ x ∈ xs, ∃ T, Kn H x T ∧ T ≠ .lst ∧ T ≠ .tup) ∧ xs.length ≤ 1000 ∧
  ∀ H', Same H H' → (isRuleV H v = false → E (.ref cR) none H') ∧ (isRuleV H v = true → wholeV z 2 64 = false → E (.ref cZ) none H') ∧
    (isRuleV H v = true → wholeV z 2 64 = true → (¬ ∃ ks, goodKs xs ks) → E (.ref cK) none H') ∧
    ∀ r n ks, RlAt H v r → r.Ok → z = .int (n : Nat) → 2 ≤ n → n ≤ 64 → goodKs xs ks → (n ≤ ks.length → E (.ref cF) none H') ∧ (ks.length < n → ∀ l, H' l = some (.lst (ringL n (fcA r n ks))) → Q (.ref l) H')
noncomputable def keysR (n : Nat) (F : Nat → Option Int) : Prop := ∀ i k, i < n → F i = some k → 0 ≤ k ∧ k ≤ 999999
noncomputable def spWaysP (cR cZ cK : Addr) : Sp := fun vs H Q E => ∃ (v : V) (p : Addr) (xs : List V), vs = [v, .ref p] ∧ Plain H v ∧ H p = some (.lst xs) ∧ (∀ x ∈ xs, ∃ T, Kn H x T) ∧ xs.length ≤ 1000 ∧
  ∀ H', Same H H' → (isRuleV H v = false → E (.ref cR) none H') ∧ (isRuleV H v = true → wholeV (.int xs.length) 2 64 = false → E (.ref cZ) none H') ∧
    (isRuleV H v = true → wholeV (.int xs.length) 2 64 = true → (∃ x ∈ xs, x ≠ .non ∧ wholeV x 0 999999 = false) → E (.ref cK) none H') ∧
    ∀ r n F, RlAt H v r → r.Ok → 2 ≤ n → n ≤ 64 → xs = ringL n F → keysR n F → Q (.int (ways n (hm r n) F)) H'
end SC
namespace SC
open PySem L2 PyProof.Rows Ly S40
noncomputable def hmV (r : Rl) (n : Nat) : V → V
  | .int k => .int (hm r n k : Nat)
  | _ => .non
theorem ints_at {ks : List Int} {i : Nat} {x : V} (h : (ks.map V.int)[i]? = some x) : ∃ k, ks[i]? = some k ∧ x = .int k := by
  rw [List.getElem?_map] at h
  obtain ⟨k, h1, h2⟩ := Option.map_eq_some_iff.mp h
  exact ⟨k, h1, h2.symm⟩
end SC
namespace SC
open PySem L2 PyProof.Rows Ly S40
noncomputable def ofV : V → Option Int
  | .int k => some k
  | _ => none
noncomputable def okV (x : V) : Prop := x = .non ∨ wholeV x 0 999999 = true
noncomputable def ofL (xs : List V) (i : Nat) : Option Int := ofV (xs.getD i .non)
noncomputable def wayF (r : Rl) (n : Nat) (F : Nat → Option Int) (i : Nat) : Int := match F i with | some k => (dist n (hm r n k) i : Int) | none => 0
end SC
set_option Elab.async false
set_option linter.all false
set_option maxRecDepth 100000
set_option exponentiation.threshold 5000
namespace SC
open PySem L2 PyProof.Rows Ly S40
theorem fold_none (i : Nat) : ∀ (l : List (Int × Nat)) (G : Nat → Option Int), (l.foldl (fun G p i => if i = p.2 then some p.1 else G i) G) i = none ↔ G i = none ∧ i ∉ l.map Prod.snd
  | [], G => by simp
  | p :: l, G => by
    rw [List.foldl_cons, fold_none i l]
    by_cases c : i = p.2
    · simp [c]
    · simp [c]
theorem asg_none {l : List (Int × Nat)} {i : Nat} : asg l i = none ↔ i ∉ l.map Prod.snd := by
  unfold asg
  rw [fold_none]
  simp
theorem fcA_none {r : Rl} {n : Nat} {ks : List Int} {i : Nat} : fcA r n ks i = none ↔ i ∉ plc r n ks := by
  unfold fcA
  rw [asg_none, List.map_snd_zip]
  rw [plc_len]; exact Nat.le_refl _
noncomputable def spKeysL : Sp := fun vs H Q _ => ∃ (m : Int) (n : Nat), vs = [.int m, .int n] ∧ n ≤ 1000 ∧ ∀ l xs ks H', Same H H' → H' l = some (.lst xs) → goodKs xs ks → ks.length = n → Q (.ref l) H'
noncomputable def spFirstL : Sp := fun vs H Q _ => ∃ (v : V) (r : Rl) (n : Nat) (p : Addr) (ks : List Int), vs = [v, .int n, .ref p] ∧ RlIn H v r n ∧ H p = some (.lst (ks.map V.int)) ∧ (∀ k ∈ ks, 0 ≤ k ∧ k ≤ 999999) ∧ ks.length < n ∧ ∀ l H', Same H H' → H' l = some (.lst (ringL n (fcA r n ks))) → Q (.ref l) H'
noncomputable def spWaysL : Sp := fun vs H Q _ => ∃ (v : V) (r : Rl) (n : Nat) (p : Addr) (F : Nat → Option Int), vs = [v, .ref p] ∧ RlIn H v r n ∧ H p = some (.lst (ringL n F)) ∧ keysR n F ∧ ∀ H', Same H H' → Q (.int (ways n (hm r n) F)) H'
end SC
namespace SC
open PySem L2 PyProof.Rows Ly S40
noncomputable def spToldF : Sp := fun vs H Q _ => ∃ (v z : V) (Tz : Ty6) (p : Addr) (xs : List V), vs = [v, z, .ref p] ∧ Plain H v ∧ Kn H z Tz ∧ H p = some (.lst xs) ∧ (∀ x ∈ xs, ∃ T, Kn H x T ∧ T ≠ .lst ∧ T ≠ .tup) ∧ xs.length ≤ 1000 ∧
  ∀ H', Same H H' → (isRuleV H v = false → Q (.str (nm 0)) H') ∧ (isRuleV H v = true → wholeV z 2 64 = false → Q (.str (nm 2)) H') ∧
    (isRuleV H v = true → wholeV z 2 64 = true → (¬ ∃ ks, goodKs xs ks) → Q (.str (nm 1)) H') ∧
    ∀ r n ks, RlAt H v r → r.Ok → z = .int (n : Nat) → 2 ≤ n → n ≤ 64 → goodKs xs ks → (n ≤ ks.length → Q (.str (nm 3)) H') ∧ (ks.length < n → ∀ l, H' l = some (.lst (ringL n (fcA r n ks))) → Q (.ref l) H')
noncomputable def spToldW : Sp := fun vs H Q _ => ∃ (v : V) (p : Addr) (xs : List V), vs = [v, .ref p] ∧ Plain H v ∧ H p = some (.lst xs) ∧ (∀ x ∈ xs, ∃ T, Kn H x T) ∧ xs.length ≤ 1000 ∧
  ∀ H', Same H H' → (isRuleV H v = false → Q (.str (nm 0)) H') ∧ (isRuleV H v = true → wholeV (.int xs.length) 2 64 = false → Q (.str (nm 2)) H') ∧
    (isRuleV H v = true → wholeV (.int xs.length) 2 64 = true → (∃ x ∈ xs, x ≠ .non ∧ wholeV x 0 999999 = false) → Q (.str (nm 1)) H') ∧
    ∀ r n F, RlAt H v r → r.Ok → 2 ≤ n → n ≤ 64 → xs = ringL n F → keysR n F → Q (.int (ways n (hm r n) F)) H'
end SC
set_option Elab.async false
set_option linter.all false
set_option maxRecDepth 100000
set_option exponentiation.threshold 5000
namespace SC
open PySem L2 PyProof.Rows Ly S40
theorem eqVs_refl : ∀ {xs : List V}, xs.all flatV = true → eqVs xs xs = true
  | [], _ => rfl
  | x :: xs, h => by
    rw [List.all_cons, Bool.and_eq_true] at h
    have e : eqV x x = true := by
      cases x with
      | bl b => cases b <;> rfl
      | int i => exact beq_self_eq_true i
      | str s => exact beq_self_eq_true s
      | non => rfl
      | _ => exact absurd h.1 (by simp [flatV])
    show (eqV x x && eqVs xs xs) = true
    rw [e, eqVs_refl h.2]; rfl
noncomputable def isNV (x : V) : V := .bl (decide (x = .non))
theorem ints_flat (ks : List Int) : (ks.map V.int).all flatV = true := by rw [List.all_map]; exact List.all_eq_true.mpr fun _ _ => rfl
noncomputable def oddL : List V := [.int (-1), .int 1000000, .non, .str "a", .bl true]
end SC
namespace SC
open PySem L2 PyProof.Rows Ly S40
section
variable {v z : V} {r : Rl} {n : Nat} {p : Addr} {xs : List V} {ks : List Int} {H : Hp} {Q : VK} {E : XK}
end
end SC
namespace SC
open PySem L2 PyProof.Rows Ly S40
theorem plain_non {H : Hp} : Plain H .non ∧ isRuleV H .non = false := ⟨⟨⟨_, .non⟩, fun xs e => by simp [tupV] at e, fun xs e => by simp [tupV] at e⟩, rfl⟩
end SC
namespace SC
open PySem L2 PyProof.Rows
theorem nilI {σ : L2.St} {H : Hp} {k : List V → Hp → Prop} (h : k [] H) : tNil σ H k := h
end SC
namespace SC
open PySem L2 PyProof.Rows
end SC
namespace SC
open PySem L2 PyProof.Rows Ly S40
noncomputable def InvLook (v : V) (L : Addr) (k : Int) (n e : Nat) (r : Rl) (F : Nat → Option Int) (H : Hp) (m : Nat) (σ : L2.St) (H2 : Hp) : Prop := ∃ j, σ = [some v, some (.ref L), some (.int k), some (.int n), some (.int (rho n e j : Nat))] ∧ H2 = H ∧ off n e (hm r n k) ≤ j ∧ j < n ∧ (∀ u, off n e (hm r n k) ≤ u → u < j → ∃ y, lin n e F u = some y ∧ Ly.lt (fun k => off n e (hm r n k)) y k) ∧ m = n - j
noncomputable def InvSet (v : V) (L : Addr) (k : Int) (n e p : Nat) (F : Nat → Option Int) (H : Hp) (m : Nat) (σ : L2.St) (H2 : Hp) : Prop := ∃ j x, σ = [some v, some (.ref L), some (.int k), some (.int (rho n e j : Nat)), some (toV (car (lin n e F) k p j)), x] ∧ (∀ b, b ≠ L → H2 b = H b) ∧ H2 L = some (.lst (ringL n (ringF n e (stg (lin n e F) k p j)))) ∧ p ≤ j ∧ j < n ∧ (∀ u, p ≤ u → u + 1 < j → ∃ y, lin n e F u = some y) ∧ m = n - j
noncomputable def InvKo (m : Int) (n : Nat) (l : Addr) (H : Hp) (i : Nat) (σ : L2.St) (H2 : Hp) : Prop := ∃ x3 x4 acc, σ = [some (.int m), some (.int n), some (.ref l), x3, x4] ∧ Same H H2 ∧ H2 l = some (.lst (nats acc)) ∧ acc.length = i ∧ acc.Nodup ∧ ∀ a ∈ acc, a < 1000000
noncomputable def InvKi (m : Int) (n : Nat) (l : Addr) (i : Nat) (x t : Nat) (acc : List Nat) (H : Hp) (mm : Nat) (σ : L2.St) (H4 : Hp) : Prop := ∃ u, σ = [some (.int m), some (.int n), some (.ref l), some (.int (0 + (i : Int))), some (.int ((x + u) % 1000000 : Nat))] ∧ H4 l = some (.lst (nats acc)) ∧ Same H H4 ∧ u ≤ t ∧ mm = t - u
end SC
set_option Elab.async false
set_option linter.all false
set_option maxRecDepth 100000
set_option exponentiation.threshold 5000
namespace Ly
noncomputable def seqN (f : Nat → Option Int) (m : Nat) : List Int := (List.range m).filterMap f
theorem seqN_succ (f : Nat → Option Int) (m : Nat) : seqN f (m + 1) = seqN f m ++ (f m).toList := by
  unfold seqN
  rw [List.range_succ, List.filterMap_append]
  cases e : f m <;> simp [e]
theorem seqN_mem {f : Nat → Option Int} {m : Nat} {x : Int} : x ∈ seqN f m ↔ ∃ i, i < m ∧ f i = some x := by
  unfold seqN
  rw [List.mem_filterMap]
  simp [List.mem_range]
end Ly
namespace SC
open PySem L2 PyProof.Rows Ly S40
noncomputable def blT (n : Nat) (acc : List Nat) : List V := (List.range n).map fun p => V.bl (S40.mem p acc)
theorem blT_at {n p : Nat} {acc : List Nat} (h : p < n) : (blT n acc)[p]? = some (.bl (S40.mem p acc)) := by unfold blT; rw [List.getElem?_map, List.getElem?_range h]; rfl
theorem blT_len (n : Nat) (acc : List Nat) : (blT n acc).length = n := by unfold blT; rw [List.length_map, List.length_range]
theorem mem_end (p q : Nat) : ∀ acc : List Nat, S40.mem p (acc ++ [q]) = (S40.mem p acc || Nat.beq p q)
  | [] => by simp [S40.mem]
  | r :: acc => by rw [List.cons_append, S40.mem, S40.mem, mem_end p q acc, Bool.or_assoc]
theorem blT_set {n q : Nat} {acc : List Nat} (h : q < n) : (blT n acc).set q (.bl true) = blT n (acc ++ [q]) := by
  refine List.ext_getElem? fun d => ?_
  by_cases hd : d < n
  · rw [blT_at hd, mem_end]
    by_cases c : q = d
    · subst c
      rw [List.getElem?_set_self (by rw [blT_len]; exact h), Nat.beq_refl, Bool.or_true]
    · rw [List.getElem?_set_ne c, blT_at hd]
      have : Nat.beq d q = false := by cases e : Nat.beq d q with
        | false => rfl
        | true => exact absurd (Nat.eq_of_beq_eq_true e).symm c
      rw [this, Bool.or_false]
  · rw [List.getElem?_eq_none (by rw [List.length_set, blT_len]; omega), List.getElem?_eq_none (by rw [blT_len]; omega)]
theorem rep_bl (n : Nat) : (List.replicate n [V.bl false]).flatten = blT n [] := by
  unfold blT
  induction n with
  | zero => rfl
  | succ n ih => rw [List.replicate_succ', List.flatten_append, ih, List.range_succ, List.map_append]; rfl
noncomputable def spFilled : Sp := fun vs H Q _ => ∃ (p : Addr) (n : Nat) (hs : List Nat), vs = [.ref p, .int n] ∧ H p = some (.lst (nats hs)) ∧ (∀ x ∈ hs, x < n) ∧ hs.length < n ∧ n ≤ 1000 ∧ ∀ l H', Same H H' → H' l = some (.lst (blT n (fps n [] hs))) → Q (.ref l) H'
noncomputable def spLayL : Sp := fun vs H Q _ => ∃ (v : V) (r : Rl) (n : Nat) (p : Addr) (ks : List Int) (F : Nat → Option Int), vs = [v, .int n, .ref p] ∧ RlIn H v r n ∧ n ≤ 64 ∧ H p = some (.lst (ks.map V.int)) ∧ ks.Nodup ∧ (∀ k ∈ ks, 0 ≤ k ∧ k ≤ 999999) ∧ ks.length < n ∧ RowOk r n F ∧ (∀ x, hasR n F x ↔ x ∈ ks) ∧
  ∀ l H', Same H H' → H' l = some (.lst (ringL n F)) → Q (.ref l) H'
end SC
namespace SC
open PySem L2 PyProof.Rows Ly S40
end SC
namespace SC
open PySem L2 PyProof.Rows Ly S40
structure LookJ (r : Rl) (n e : Nat) (F : Nat → Option Int) (k : Int) (j : Nat) : Prop where
  lo : off n e (hm r n k) ≤ j
  hi : j < n
  all : ∀ u, off n e (hm r n k) ≤ u → u < j → ∃ y, lin n e F u = some y ∧ Ly.lt (fun k => off n e (hm r n k)) y k
  stop : ∀ y, lin n e F j = some y → ¬ Ly.lt (fun k => off n e (hm r n k)) y k
noncomputable def spRowHas (C cK : Addr) : Sp := fun vs H Q E => ∃ (x L : Addr) (r : Rl) (n : Nat) (F : Nat → Option Int) (kv : V) (T : Ty6), vs = [.ref x, kv] ∧ RowAt C H x L r n F ∧ Kn H kv T ∧
  (wholeV kv 0 999999 = false → E (.ref cK) none H) ∧ ∀ k, kv = .int k → (0 ≤ k ∧ k ≤ 999999) → (hasR n F k → Q (.bl true) H) ∧ (¬ hasR n F k → Q (.bl false) H)
noncomputable def spRowLooks (C cK : Addr) : Sp := fun vs H Q E => ∃ (x L : Addr) (r : Rl) (n : Nat) (F : Nat → Option Int) (kv : V) (T : Ty6), vs = [.ref x, kv] ∧ RowAt C H x L r n F ∧ Kn H kv T ∧
  (wholeV kv 0 999999 = false → E (.ref cK) none H) ∧ ∀ k, kv = .int k → (0 ≤ k ∧ k ≤ 999999) → ∃ e, e < n ∧ F e = none ∧ ∀ j, LookJ r n e F k j → Q (.int ((j - off n e (hm r n k) + 1 : Nat) : Int)) H
noncomputable def spLooksL : Sp := fun vs H Q _ => ∃ (v : V) (r : Rl) (n : Nat) (p : Addr) (F : Nat → Option Int) (k : Int) (e : Nat), vs = [v, .int n, .ref p, .int k] ∧ RlIn H v r n ∧ H p = some (.lst (ringL n F)) ∧ RowOk r n F ∧ (0 ≤ k ∧ k ≤ 999999) ∧ e < n ∧ F e = none ∧ ∀ j, LookJ r n e F k j → Q (.int ((j - off n e (hm r n k) + 1 : Nat) : Int)) H
end SC
namespace SC
open PySem L2 PyProof.Rows Ly S40
theorem cut_ints (ks : List Int) (j : Nat) (h : j ≤ ks.length) : cutV (ks.map V.int) none (some (j : Int)) = (ks.take j).map V.int := by
  unfold cutV
  have h1 : HT.sIx (ks.map V.int).length 0 none = 0 := by simp [HT.sIx]
  have h2 : HT.sIx (ks.map V.int).length (ks.map V.int).length (some (j : Int)) = j := by
    simp only [HT.sIx]
    rw [if_neg (by omega), List.length_map]
    omega
  rw [h1, h2]
  show ((ks.map V.int).drop 0).take (j - 0) = _
  rw [List.drop_zero, Nat.sub_zero, List.map_take]
end SC
namespace SC
open PySem L2 PyProof.Rows Ly S40
noncomputable def st22 (a : Addr) (i : Nat) (m : Int) (v : V) (n mn : Nat) (lk x : Addr) (p q r t : Option V) : L2.St := [some (.ref a), some (.int (0 + (i : Int))), some (.int m), some v, some (.int n), some (.int mn), some (.ref lk), some (.ref x), p, q, r, t]
noncomputable def stLk (v : V) (n : Nat) (p : Addr) (k : Int) (a b c d : Option V) : L2.St := [some v, some (.int n), some (.ref p), some (.int k), a, b, c, d]
noncomputable def PassLk (r : Rl) (n e : Nat) (F : Nat → Option Int) (k : Int) (j : Nat) : Prop := ∀ u, off n e (hm r n k) ≤ u → u < j → ∃ y, lin n e F u = some y ∧ Ly.lt (fun k => off n e (hm r n k)) y k
noncomputable def lkN (r : Rl) (n e : Nat) (k : Int) (j : Nat) : V := .int ((j - off n e (hm r n k) + 1 : Nat) : Int)
noncomputable def InvLk (v : V) (n : Nat) (p : Addr) (k : Int) (r : Rl) (e : Nat) (F : Nat → Option Int) (H : Hp) (m : Nat) (σ : L2.St) (H2 : Hp) : Prop := ∃ j x6 x7, σ = stLk v n p k (some (.int (rho n e j : Nat))) (some (lkN r n e k j)) x6 x7 ∧ H2 = H ∧ off n e (hm r n k) ≤ j ∧ j < n ∧ PassLk r n e F k j ∧ m = n - j
noncomputable def st12 (a : Addr) (v1 v2 v3 v4 v5 v6 v7 v8 v9 v10 v11 : Option V) : L2.St := [some (.ref a), v1, v2, v3, v4, v5, v6, v7, v8, v9, v10, v11]
noncomputable def InvO (a : Addr) (H : Hp) (_ : Nat) (σ : L2.St) (H2 : Hp) : Prop := ∃ v1 v2 v3 v4 v5 v6 v7 v8 v9 v10 v11, σ = st12 a v1 v2 v3 v4 v5 v6 v7 v8 v9 v10 v11 ∧ Same H H2
noncomputable def InvPut (mk : Option V → L2.St) (H5 : Hp) (p6 : Addr) (ks : List Int) (C x L : Addr) (r : Rl) (n : Nat) (j : Nat) (σ : L2.St) (H' : Hp) : Prop := ∃ w8 F, σ = mk w8 ∧ Same H5 H' ∧ H' p6 = some (.lst (ks.map V.int)) ∧ RowAt C H' x L r n F ∧ (∀ k, hasR n F k ↔ k ∈ ks.take j) ∧ freeN n F = n - j
noncomputable def InvLoo (mk : Option V → Option V → Option V → L2.St) (H8 : Hp) (p10 : Addr) (ks : List Int) (_ : Nat) (σ : L2.St) (H' : Hp) : Prop := ∃ y8 y10 y11, σ = mk y8 y10 y11 ∧ Same H8 H' ∧ H' p10 = some (.lst (ks.map V.int))
noncomputable def InvLay (mk : Option V → Option V → L2.St) (H2 : Hp) (lo L : Addr) (rs : List Addr) (n e : Nat) (F : Nat → Option Int) (j : Nat) (σ : L2.St) (H' : Hp) : Prop := ∃ x7 x8, σ = mk x7 x8 ∧ Same H2 H' ∧ H' lo = some (.lst ((rs.drop (seqN (lin n e F) j).length).map V.ref)) ∧ H' L = some (.lst (ringL n fun i => if off n e i < j then F i else none))
noncomputable def InvFo (p : Addr) (n : Nat) (L : Addr) (hs : List Nat) (H : Hp) (i : Nat) (σ : L2.St) (H2 : Hp) : Prop := ∃ x3, σ = [some (.ref p), some (.int n), some (.ref L), x3] ∧ Same H H2 ∧ H2 L = some (.lst (blT n (fps n [] (hs.take i))))
noncomputable def InvFi (p : Addr) (n : Nat) (L : Addr) (x t : Nat) (H2 : Hp) (mm : Nat) (σ : L2.St) (H3 : Hp) : Prop := ∃ u, σ = [some (.ref p), some (.int n), some (.ref L), some (.int ((x + u) % n : Nat))] ∧ H3 = H2 ∧ u ≤ t ∧ mm = t - u
end SC
set_option Elab.async false
set_option linter.all false
set_option maxRecDepth 100000
set_option exponentiation.threshold 5000
namespace SC
open PySem L2 PyProof.Rows Ly S40
noncomputable def dstg (f : Nat → Option Int) (p j i : Nat) : Option Int := if i < p then f i else if i < j then f (i + 1) else f i
structure DropOk (r : Rl) (n : Nat) (F : Nat → Option Int) (k : Int) (F' : Nat → Option Int) : Prop where
  ok : RowOk r n F'
  has : ∀ x, hasR n F' x ↔ x ≠ k ∧ hasR n F x
noncomputable def spTakeOut : Sp := fun vs H Q _ => ∃ (v : V) (L : Addr) (r : Rl) (n : Nat) (F : Nat → Option Int) (k : Int), vs = [v, .ref L, .int k] ∧ RlIn H v r n ∧ H L = some (.lst (ringL n F)) ∧ RowOk r n F ∧ (0 ≤ k ∧ k ≤ 999999) ∧ hasR n F k ∧
  ∀ F', DropOk r n F k F' → Q .non (upd H L (.lst (ringL n F')))
noncomputable def stTk (v : V) (L : Addr) (k : Int) (n : Nat) (g b : Nat) : L2.St := [some v, some (.ref L), some (.int k), some (.int n), some (.int (g : Nat)), some (.int (b : Nat))]
noncomputable def InvTk (v : V) (L : Addr) (k : Int) (n e p : Nat) (h : Int → Nat) (F : Nat → Option Int) (H : Hp) (m : Nat) (σ : L2.St) (H2 : Hp) : Prop :=
  ∃ j, σ = stTk v L k n (rho n e j) (rho n e (j + 1)) ∧ (∀ b, b ≠ L → H2 b = H b) ∧ H2 L = some (.lst (ringL n (ringF n e (dstg (lin n e F) p j)))) ∧ p ≤ j ∧ j + 1 < n ∧ (∀ u, p < u → u ≤ j → ∃ y, lin n e F u = some y ∧ off n e (h y) < u) ∧ m = n - j
noncomputable def spDrop (C : Addr) (cK : Addr) : Sp := fun vs H Q E => ∃ (x L : Addr) (r : Rl) (n : Nat) (F : Nat → Option Int) (kv : V) (T : Ty6), vs = [.ref x, kv] ∧ RowAt C H x L r n F ∧ Kn H kv T ∧
  (wholeV kv 0 999999 = false → E (.ref cK) none H) ∧ ∀ k, kv = .int k → (0 ≤ k ∧ k ≤ 999999) → (¬ hasR n F k → Q (.bl false) H) ∧ (hasR n F k → ∀ F', DropOk r n F k F' → Q (.bl true) (upd H L (.lst (ringL n F'))))
theorem seqN_nodup {F : Nat → Option Int} : ∀ {n : Nat}, (∀ i j k, i < n → j < n → F i = some k → F j = some k → i = j) → (seqN F n).Nodup
  | 0, _ => List.nodup_nil
  | n + 1, h => by
    rw [seqN_succ, List.nodup_append]
    refine ⟨seqN_nodup fun i j k a b => h i j k (by omega) (by omega), ?_, fun a ha b hb w => ?_⟩
    · cases F n <;> simp
    · obtain ⟨i, hi, e⟩ := seqN_mem.mp ha
      have e2 : F n = some b := by cases e2 : F n with
        | none => rw [e2] at hb; simp at hb
        | some c => rw [e2] at hb; simp at hb; rw [hb]
      have := h i n b (by omega) (by omega) (by rw [← w]; exact e) e2
      omega
theorem seq_perm {r : Rl} {n : Nat} {F : Nat → Option Int} {ks : List Int} (ok : RowOk r n F) (nd : ks.Nodup) (h : ∀ x, hasR n F x ↔ x ∈ ks) : (seqN F n).Perm ks :=
  (List.perm_ext_iff_of_nodup (seqN_nodup ok.lay.inj) nd).mpr fun x => by rw [seqN_mem, ← h]; rfl
noncomputable def spKeysIn : Sp := fun vs H Q _ => ∃ (L : Addr) (n : Nat) (F : Nat → Option Int), vs = [.ref L] ∧ H L = some (.lst (ringL n F)) ∧ n ≤ 2000 ∧ (seqN F n).length < 64 ∧ ∀ (l : Addr) (ks : List Int) (H' : Hp), Same H H' → H l = none → H' l = some (.lst (ks.map V.int)) → ks.Perm (seqN F n) → ks.Pairwise (· ≤ ·) → Q (.ref l) H'
noncomputable def spAllTold (C : Addr) : Sp := fun vs H Q _ => ∃ (x L : Addr) (r : Rl) (n : Nat) (F : Nat → Option Int), vs = [.ref x] ∧ RowAt C H x L r n F ∧ n ≤ 64 ∧ ∀ (l : Addr) (ks : List Int) (H' : Hp), Same H H' → H l = none → H' l = some (.lst (ks.map V.int)) → ks.Perm (seqN F n) → ks.Pairwise (· ≤ ·) → Q (.ref l) H'
end SC
set_option Elab.async false
set_option linter.all false
set_option maxRecDepth 100000
set_option exponentiation.threshold 5000
namespace SC
open PySem L2 PyProof.Rows Ly S40
noncomputable def LayK (n : Nat) (h : Int → Nat) (F : Nat → Option Int) (i : Nat) (k : Int) : Prop := ∀ j, j < n → dist n (h k) j < dist n (h k) i → ∃ y, F j = some y ∧ aheadB n h y k j = true
noncomputable def LayC (n : Nat) (h : Int → Nat) (F : Nat → Option Int) : Prop := ∀ i k, i < n → F i = some k → LayK n h F i k
noncomputable def spLAhead : Sp := fun vs H Q _ => ∃ (v : V) (r : Rl) (n p : Nat) (a b : Int), vs = [v, .int n, .int a, .int b, .int p] ∧ RlIn H v r n ∧ (0 ≤ a ∧ a ≤ 999999) ∧ (0 ≤ b ∧ b ≤ 999999) ∧ p < n ∧ Q (.bl (aheadB n (hm r n) a b p)) H
noncomputable def spIsLay : Sp := fun vs H Q _ => ∃ (v : V) (r : Rl) (n : Nat) (L : Addr) (F : Nat → Option Int), vs = [v, .int n, .ref L] ∧ RlIn H v r n ∧ H L = some (.lst (ringL n F)) ∧ (∀ i k, i < n → F i = some k → 0 ≤ k ∧ k ≤ 999999) ∧
  (LayC n (hm r n) F → ∀ H', Same H H' → Q (.bl true) H') ∧ (¬ LayC n (hm r n) F → ∀ H', Same H H' → Q (.bl false) H')
noncomputable def stIs (v : V) (n : Nat) (L : Addr) (x3 x4 x5 : Option V) : L2.St := [some v, some (.int n), some (.ref L), x3, x4, x5]
noncomputable def InvIsO (v : V) (n : Nat) (L : Addr) (h : Int → Nat) (F : Nat → Option Int) (H : Hp) (i : Nat) (σ : L2.St) (H2 : Hp) : Prop := ∃ x3 x4 x5, σ = stIs v n L x3 x4 x5 ∧ Same H H2 ∧ ∀ i' k, i' < i → F i' = some k → LayK n h F i' k
noncomputable def InvIsI (v : V) (n : Nat) (L : Addr) (h : Int → Nat) (F : Nat → Option Int) (i : Nat) (k : Int) (H1 : Hp) (m : Nat) (σ : L2.St) (H2 : Hp) : Prop := ∃ u, σ = stIs v n L (some (.int i)) (some (.int k)) (some (.int ((h k + u) % n : Nat))) ∧ H2 = H1 ∧ u ≤ dist n (h k) i ∧
  (∀ w, w < u → ∃ y, F ((h k + w) % n) = some y ∧ aheadB n h y k ((h k + w) % n) = true) ∧ m = dist n (h k) i - u
noncomputable def spBuilt (C : Addr) : Sp := fun vs H Q _ => ∃ (v : V) (r : Rl) (n : Nat) (p o : Addr) (ks os : List Int), vs = [v, .int n, .ref p, .ref o] ∧ RlIn H v r n ∧ n ≤ 64 ∧ H p = some (.lst (ks.map V.int)) ∧ H o = some (.lst (os.map V.int)) ∧ ks.Nodup ∧ (∀ k ∈ ks, 0 ≤ k ∧ k ≤ 999999) ∧ (∀ k ∈ os, (0 ≤ k ∧ k ≤ 999999) ∧ k ∉ ks) ∧ ks.length < n ∧
  ∀ x L F H', Same H H' → RowAt C H' x L r n F → (∀ k, hasR n F k ↔ k ∈ ks) → Q (.ref x) H'
noncomputable def stBu (v : V) (n : Nat) (p o x : Addr) (x5 x6 x7 : Option V) : L2.St := [some v, some (.int n), some (.ref p), some (.ref o), some (.ref x), x5, x6, x7]
noncomputable def InvBu (v : V) (n : Nat) (p o x L : Addr) (C : Addr) (r : Rl) (ks : List Int) (H : Hp) (j : Nat) (σ : L2.St) (H' : Hp) : Prop := ∃ x5 x6 x7 F, σ = stBu v n p o x x5 x6 x7 ∧ Same H H' ∧ RowAt C H' x L r n F ∧ (∀ k, hasR n F k ↔ k ∈ ks.take j)
noncomputable def swF (F : Nat → Option Int) (i j : Nat) (u : Nat) : Option Int := if u = j then F i else if u = i then F j else F u
noncomputable def swp (i j u : Nat) : Nat := if u = j then i else if u = i then j else u
noncomputable def st16 (a : Addr) (v1 v2 v3 v4 v5 v6 v7 v8 v9 v10 v11 v12 v13 v14 v15 : Option V) : L2.St := [some (.ref a), v1, v2, v3, v4, v5, v6, v7, v8, v9, v10, v11, v12, v13, v14, v15]
noncomputable def InvO16 (a : Addr) (H : Hp) (_ : Nat) (σ : L2.St) (H2 : Hp) : Prop := ∃ v1 v2 v3 v4 v5 v6 v7 v8 v9 v10 v11 v12 v13 v14 v15, σ = st16 a v1 v2 v3 v4 v5 v6 v7 v8 v9 v10 v11 v12 v13 v14 v15 ∧ Same H H2
noncomputable def at_ (n : Nat) (F : Nat → Option Int) (k : Int) : Nat := (ringL n F).findIdx fun z => eqV z (.int k)
end SC
namespace SC
open PySem L2 PyProof.Rows Ly S40
noncomputable def st20 (a : Addr) (i : Nat) (m : Int) (v : V) (n mn : Nat) (lk kh ot : Addr) (v9 v10 v11 v12 v13 v14 v15 : Option V) : L2.St := st16 a (some (.int (0 + (i : Int)))) (some (.int m)) (some v) (some (.int n)) (some (.int mn)) (some (.ref lk)) (some (.ref kh)) (some (.ref ot)) v9 v10 v11 v12 v13 v14 v15
noncomputable def InvOrd (mk : Option V → Option V → L2.St) (H : Hp) (_ : Nat) (σ : L2.St) (H' : Hp) : Prop := ∃ v11 v12, σ = mk v11 v12 ∧ Same H H'
noncomputable def ixV (n : Nat) (F : Nat → Option Int) : V → V
  | .int k => .int (at_ n F k : Nat)
  | _ => .non
end SC
set_option Elab.async false
set_option linter.all false
set_option maxRecDepth 100000
set_option exponentiation.threshold 5000
namespace SC
open PySem L2 PyProof.Rows Ly
theorem sorted_eq : ∀ {l m : List Int}, l.Pairwise (· ≤ ·) → m.Pairwise (· ≤ ·) → l.Perm m → l = m
  | [], m, _, _, p => (List.nil_perm.mp p).symm
  | x :: l, [], _, _, p => absurd p.length_eq (by simp)
  | x :: l, y :: m, hl, hm, p => by
    rw [List.pairwise_cons] at hl hm
    have e : x = y := by
      have h1 := p.mem_iff.mp (List.mem_cons_self (a := x) (l := l))
      have h2 := p.mem_iff.mpr (List.mem_cons_self (a := y) (l := m))
      rcases List.mem_cons.mp h1 with h1 | h1
      · exact h1
      · rcases List.mem_cons.mp h2 with h2 | h2
        · exact h2.symm
        · have := hl.1 y h2
          have := hm.1 x h1
          omega
    subst e
    rw [sorted_eq hl.2 hm.2 (List.Perm.cons_inv p)]
noncomputable def chn (r : Rl) (n : Nat) (ks : List Int) (i : Nat) : List Int := ks.filter fun k => decide (hm r n k = i)
structure ChainsAt (H' : Hp) (l : Addr) (r : Rl) (n : Nat) (ks : List Int) (rs : List Addr) : Prop where
  top : H' l = some (.lst (rs.map V.ref))
  len : rs.length = n
  nd : rs.Nodup
  at_ : ∀ (i : Nat) (a : Addr), rs[i]? = some a → H' a = some (.lst ((chn r n ks i).map V.int))
noncomputable def spChains (cR cZ cK : Addr) : Sp := fun vs H Q E => ∃ (v z : V) (Tz : Ty6) (p : Addr) (xs : List V), vs = [v, z, .ref p] ∧ Plain H v ∧ Kn H z Tz ∧ H p = some (.lst xs) ∧ (∀ x ∈ xs, ∃ T, Kn H x T ∧ T ≠ .lst ∧ T ≠ .tup) ∧ xs.length < 64 ∧
  ∀ H', Same H H' → (isRuleV H v = false → E (.ref cR) none H') ∧ (isRuleV H v = true → wholeV z 2 64 = false → E (.ref cZ) none H') ∧
    (isRuleV H v = true → wholeV z 2 64 = true → (¬ ∃ ks, goodKs xs ks) → E (.ref cK) none H') ∧
    ∀ r n ks, RlAt H v r → r.Ok → z = .int (n : Nat) → 2 ≤ n → n ≤ 64 → goodKs xs ks → ∀ l ks' rs, ks'.Perm ks → ks'.Pairwise (· ≤ ·) → ChainsAt H' l r n ks' rs → (∀ a ∈ rs, H a = none) → Q (.ref l) H'
noncomputable def spToldC : Sp := fun vs H Q _ => ∃ (v z : V) (Tz : Ty6) (p : Addr) (xs : List V), vs = [v, z, .ref p] ∧ Plain H v ∧ Kn H z Tz ∧ H p = some (.lst xs) ∧ (∀ x ∈ xs, ∃ T, Kn H x T ∧ T ≠ .lst ∧ T ≠ .tup) ∧ xs.length < 64 ∧
  ∀ H', Same H H' → (isRuleV H v = false → Q (.str (nm 0)) H') ∧ (isRuleV H v = true → wholeV z 2 64 = false → Q (.str (nm 2)) H') ∧
    (isRuleV H v = true → wholeV z 2 64 = true → (¬ ∃ ks, goodKs xs ks) → Q (.str (nm 1)) H') ∧
    ∀ r n ks, RlAt H v r → r.Ok → z = .int (n : Nat) → 2 ≤ n → n ≤ 64 → goodKs xs ks → ∀ l ks' rs, ks'.Perm ks → ks'.Pairwise (· ≤ ·) → ChainsAt H' l r n ks' rs → (∀ a ∈ rs, H a = none) → Q (.ref l) H'
section
variable {v z : V} {r : Rl} {n : Nat} {p : Addr} {xs : List V} {ks : List Int} {H : Hp} {Q : VK} {E : XK}
end
noncomputable def oddL4 : List V := [.int (-1), .int 1000000, .non, .str "a"]
noncomputable def keepC (r : Rl) (n i : Nat) (x : V) : Bool := match x with
  | .int k => decide (hm r n k = i)
  | _ => false
structure DueAt (H' : Hp) (l : Addr) (r : Rl) (n : Nat) (ks : List Int) (rs : List Addr) : Prop where
  top : H' l = some (.lst (rs.map V.ref))
  len : rs.length = n
  at_ : ∀ (i : Nat) (a : Addr), rs[i]? = some a → ∃ ks', ks'.Perm ks ∧ ks'.Pairwise (· ≤ ·) ∧ H' a = some (.lst ((chn r n ks' i).map V.int))
end SC
set_option Elab.async false
set_option linter.all false
set_option maxRecDepth 100000
set_option exponentiation.threshold 5000
namespace SC
open PySem L2 PyProof.Rows Ly
noncomputable def spWod : Sp := fun vs H Q _ => ∃ (p : Addr) (ds : List Nat), vs = [.ref p] ∧ H p = some (.lst (nats ds)) ∧ Q (.int (wod ds : Nat)) H
theorem wrun_take {ds : List Nat} {i d x : Nat} (h : ds[i]? = some d) : wrun (ds.take (i + 1)) x = wrun (ds.take i) x + d - 1 := by
  obtain ⟨hi, e⟩ := List.getElem?_eq_some_iff.mp h
  rw [List.take_succ_eq_append_getElem hi, wrun_app, e]; rfl
theorem wtot_take {ds : List Nat} {i d x : Nat} (h : ds[i]? = some d) : wtot (ds.take (i + 1)) x = wtot (ds.take i) x + (wrun (ds.take i) x + d - 1) := by
  obtain ⟨hi, e⟩ := List.getElem?_eq_some_iff.mp h
  rw [List.take_succ_eq_append_getElem hi, wtot_app, e]; rfl
theorem max0 (x d : Nat) : (if (x : Int) + d - 1 > 0 then (x : Int) + d - 1 else 0) = ((x + d - 1 : Nat) : Int) := by
  split <;> omega
end SC
namespace SC
open PySem L2 PyProof.Rows Ly
noncomputable def ListsAt (H : Hp) (rs : List Addr) (L : List (List Nat)) : Prop := rs.length = L.length ∧ ∀ (i : Nat) (a : Addr) (x : List Nat), rs[i]? = some a → L[i]? = some x → H a = some (.lst (nats x))
theorem ListsAt.same {H H' : Hp} {rs : List Addr} {L : List (List Nat)} (s : Same H H') (h : ListsAt H rs L) : ListsAt H' rs L := ⟨h.1, fun i a x h1 h2 => s _ _ (h.2 i a x h1 h2)⟩
noncomputable def spFurther : Sp := fun vs H Q _ => ∃ (p : Addr) (x : List Nat) (room behind many : Nat), vs = [.ref p, .int room, .int behind, .int many] ∧ H p = some (.lst (nats x)) ∧ x.length ≤ 1000 ∧ x.sum ≤ many ∧ room ≤ 1000 ∧ behind ≤ 10000 ∧ many ≤ 1000 ∧ ∀ l rs H', Same H H' → H' l = some (.lst (rs.map V.ref)) → ListsAt H' rs (furs x room behind many) → (∀ a ∈ rs, H a = none) → Q (.ref l) H'
theorem nats_ints (l : List Nat) : nats l = (l.map fun (a : Nat) => (a : Int)).map V.int := by unfold nats; rw [List.map_map]; rfl
theorem sum_nats : ∀ l : List Nat, (l.map fun (a : Nat) => (a : Int)).sum = (l.sum : Nat)
  | [] => rfl
  | a :: l => by rw [List.map_cons, List.sum_cons, List.sum_cons, sum_nats l, Int.natCast_add]
end SC
set_option Elab.async false
set_option linter.all false
set_option maxRecDepth 100000
set_option exponentiation.threshold 5000
namespace SC
open PySem L2 PyProof.Rows Ly
noncomputable def spAllD (cT : Addr) : Sp := fun vs H Q E => ∃ (p : Addr) (rs : List Nat) (many : Nat), vs = [.ref p, .int many] ∧ H p = some (.lst (nats rs)) ∧ rs.length ≤ 64 ∧ rs.sum ≤ 64 ∧ many ≤ rs.sum ∧
  ((∃ i, i ≤ rs.length ∧ 4000 < (dst many rs i).1.length) → ∀ H', Same H H' → E (.ref cT) none H') ∧
  ((∀ i, i ≤ rs.length → (dst many rs i).1.length ≤ 4000) → ∀ l as H', Same H H' → H' l = some (.lst (as.map V.ref)) → ListsAt H' as (dst many rs rs.length).1 → Q (.ref l) H')
noncomputable def stAD (p : Addr) (many : Nat) (b : Addr) (bh : Nat) (x4 x5 x6 : Option V) : L2.St := [some (.ref p), some (.int many), some (.ref b), some (.int bh), x4, x5, x6]
noncomputable def InvAD (p : Addr) (rs : List Nat) (many : Nat) (H : Hp) (i : Nat) (σ : L2.St) (H2 : Hp) : Prop := ∃ b as x4 x5 x6, σ = stAD p many b (dst many rs i).2 x4 x5 x6 ∧ Same H H2 ∧ H2 b = some (.lst (as.map V.ref)) ∧ ListsAt H2 as (dst many rs i).1 ∧ ∀ j, j ≤ i → (dst many rs j).1.length ≤ 4000
noncomputable def InvADi (mk : Option V → L2.St) (L : Addr) (bg : List (List Nat)) (f : List Nat → List (List Nat)) (H2 : Hp) (j : Nat) (σ : L2.St) (H3 : Hp) : Prop := ∃ as x6, σ = mk x6 ∧ Same H2 H3 ∧ H3 L = some (.lst (as.map V.ref)) ∧ ListsAt H3 as ((bg.take j).flatMap f) ∧ ∀ a ∈ as, a ≠ L
theorem ListsAt.app {H : Hp} {rs rs' : List Addr} {L L' : List (List Nat)} (a : ListsAt H rs L) (b : ListsAt H rs' L') : ListsAt H (rs ++ rs') (L ++ L') := by
  refine ⟨by rw [List.length_append, List.length_append, a.1, b.1], fun i x y h1 h2 => ?_⟩
  by_cases c : i < rs.length
  · rw [List.getElem?_append_left c] at h1
    rw [List.getElem?_append_left (by rw [← a.1]; exact c)] at h2
    exact a.2 i x y h1 h2
  · rw [List.getElem?_append_right (by omega)] at h1
    rw [List.getElem?_append_right (by rw [← a.1]; omega), ← a.1] at h2
    exact b.2 _ x y h1 h2
theorem ListsAt.upd {H : Hp} {rs : List Addr} {L : List (List Nat)} {b : Addr} {o : HO} (a : ListsAt H rs L) (h : ∀ x ∈ rs, x ≠ b) : ListsAt (upd H b o) rs L := ⟨a.1, fun i x y h1 h2 => by rw [upd_ne (h x (List.mem_of_getElem? h1))]; exact a.2 i x y h1 h2⟩
noncomputable def spChainsR (cR cZ cK : Addr) : Sp := fun vs H Q E => ∃ (v z : V) (Tz : Ty6) (p : Addr) (xs : List V), vs = [v, z, .ref p] ∧ Plain H v ∧ Kn H z Tz ∧ H p = some (.lst xs) ∧ (∀ x ∈ xs, ∃ T, Kn H x T ∧ T ≠ .lst ∧ T ≠ .tup) ∧ (xs.length < 64 ∨ (xs.length = 64 ∧ ∃ ks : List Int, xs = ks.map V.int ∧ ks.Pairwise (· ≤ ·))) ∧
  ∀ H', Same H H' → (isRuleV H v = false → E (.ref cR) none H') ∧ (isRuleV H v = true → wholeV z 2 64 = false → E (.ref cZ) none H') ∧
    (isRuleV H v = true → wholeV z 2 64 = true → (¬ ∃ ks, goodKs xs ks) → E (.ref cK) none H') ∧
    ∀ r n ks, RlAt H v r → r.Ok → z = .int (n : Nat) → 2 ≤ n → n ≤ 64 → goodKs xs ks → ∀ l ks' rs, ks'.Perm ks → ks'.Pairwise (· ≤ ·) → ChainsAt H' l r n ks' rs → (∀ a ∈ rs, H a = none) → Q (.ref l) H'
end SC
namespace SC
open PySem L2 PyProof.Rows Ly
noncomputable def rng (m : Nat) : List Int := (List.range m).map fun (i : Nat) => (i : Int)
theorem rng_len (m : Nat) : (rng m).length = m := by unfold rng; rw [List.length_map, List.length_range]
theorem rng_mem {m : Nat} {k : Int} : k ∈ rng m ↔ 0 ≤ k ∧ k < m := by
  unfold rng
  rw [List.mem_map]
  constructor
  · rintro ⟨i, hi, rfl⟩
    have := List.mem_range.mp hi
    omega
  · rintro ⟨h1, h2⟩
    exact ⟨k.toNat, List.mem_range.mpr (by omega), by omega⟩
theorem rng_lt (m : Nat) : (rng m).Pairwise (· < ·) := by
  unfold rng
  rw [List.pairwise_map]
  exact List.pairwise_lt_range.imp fun h => by omega
theorem rng_le (m : Nat) : (rng m).Pairwise (· ≤ ·) := (rng_lt m).imp fun h => Int.le_of_lt h
theorem rng_nd (m : Nat) : (rng m).Nodup := (rng_lt m).imp fun h => by omega
noncomputable def picks (r : Rl) (n limit : Nat) (z : List Nat) : List Int := ((List.range n).map fun p => (chn r n (rng limit) p).take (z.getD p 0)).flatten
noncomputable def picksTo (r : Rl) (n limit : Nat) (z : List Nat) (m : Nat) : List Int := ((List.range m).map fun p => (chn r n (rng limit) p).take (z.getD p 0)).flatten
theorem picksTo_succ (r : Rl) (n limit : Nat) (z : List Nat) (m : Nat) : picksTo r n limit z (m + 1) = picksTo r n limit z m ++ (chn r n (rng limit) m).take (z.getD m 0) := by
  unfold picksTo
  rw [List.range_succ, List.map_append, List.flatten_append]
  simp
theorem chn_len (r : Rl) (n : Nat) (ks : List Int) (p : Nat) : (chn r n ks p).length = ks.countP fun k => decide (hm r n k = p) := by unfold chn; rw [List.countP_eq_length_filter]
noncomputable def rooms (r : Rl) (n limit : Nat) : List Nat := deal n (hm r n) (rng limit)
theorem rooms_len (r : Rl) (n limit : Nat) : (rooms r n limit).length = n := deal_len _ _ _
theorem rooms_at {r : Rl} {n limit p : Nat} (h : p < n) : (rooms r n limit)[p]? = some (chn r n (rng limit) p).length := by
  unfold rooms deal
  rw [List.getElem?_map, List.getElem?_range h, chn_len]
  rfl
theorem rooms_sum {r : Rl} {n : Nat} (rk : r.Ok) (h : 0 < n) (limit : Nat) : (rooms r n limit).sum = limit := by
  unfold rooms
  rw [deal_sum (hm_lt rk h), rng_len]
noncomputable def ways_ (r : Rl) (n many limit : Nat) (j : Nat) : Int := (wod ((dst many (rooms r n limit) n).1.getD j []) : Nat)
structure WorstAt (r : Rl) (n many limit : Nat) (z : List Nat) (ks : List Int) : Prop where
  ex : ∃ i, (dst many (rooms r n limit) n).1[i]? = some z ∧ Best (ways_ r n many limit) (dst many (rooms r n limit) n).1.length i
  pm : ks.Perm (picks r n limit z)
  pw : ks.Pairwise (· ≤ ·)
noncomputable def fewD (r : Rl) (n many limit : Nat) : Prop := ∀ i, i ≤ n → (dst many (rooms r n limit) i).1.length ≤ 4000
noncomputable def spWorst (cR cZ cT : Addr) : Sp := fun vs H Q E => ∃ (v : V) (z mi li : Int), vs = [v, .int z, .int mi, .int li] ∧ Plain H v ∧
  (isRuleV H v = false → ∀ H', Same H H' → E (.ref cR) none H') ∧
  (isRuleV H v = true → ¬ (2 ≤ z ∧ z ≤ 64 ∧ 0 ≤ mi ∧ mi ≤ z - 1 ∧ mi ≤ li ∧ li ≤ 64) → ∀ H', Same H H' → E (.ref cZ) none H') ∧
  ∀ (r : Rl) (n many limit : Nat), RlAt H v r → r.Ok → z = n → mi = many → li = limit → 2 ≤ n → n ≤ 64 → many < n → many ≤ limit → limit ≤ 64 →
    ((∃ i, i ≤ n ∧ 4000 < (dst many (rooms r n limit) i).1.length) → ∀ H', Same H H' → E (.ref cT) none H') ∧
    (fewD r n many limit → ∀ p l H' z ks, Same H H' → WorstAt r n many limit z ks → H' p = some (.tup [.ref l, .int (wod z : Nat)]) → H' l = some (.lst (ks.map V.int)) → Q (.ref p) H')
end SC
namespace SC
open PySem L2 PyProof.Rows Ly
noncomputable def stW (v : V) (n many limit : Nat) (x4 x5 x6 x7 x8 : Option V) : L2.St := [some v, some (.int n), some (.int many), some (.int limit), x4, x5, x6, x7, x8]
theorem rng_vals (m : Nat) : ((List.range ((m : Int)).toNat).map fun k : Nat => V.int (0 + (k : Int))) = (rng m).map V.int := by
  unfold rng
  rw [Int.toNat_natCast, List.map_map]
  exact List.map_congr_left fun i _ => by show V.int (0 + (i : Int)) = V.int (i : Int); rw [Int.zero_add]
theorem rng_good {m : Nat} (h : m ≤ 64) : goodKs ((rng m).map V.int) (rng m) := ⟨rfl, rng_nd m, fun k hk => by have := rng_mem.mp hk; omega⟩
theorem rng_split {many limit : Nat} (h : many ≤ limit) : ∃ r, rng many ++ r = rng limit := by
  refine ⟨(rng limit).drop many, ?_⟩
  have e : rng many = (rng limit).take many := by
    unfold rng
    rw [← List.map_take, List.take_range, Nat.min_eq_left h]
  rw [e, List.take_append_drop]
theorem dst_pos {r : Rl} {n many limit : Nat} (rk : r.Ok) (hn : 0 < n) (h : many ≤ limit) : 0 < (dst many (rooms r n limit) n).1.length := by
  have hs := rooms_sum rk hn limit
  have hl := rooms_len r n limit
  have e := dst_all many (rooms r n limit)
  rw [hl] at e
  obtain ⟨rr, hr⟩ := rng_split h
  have hm : deal n (hm r n) (rng many) ∈ (dst many (rooms r n limit) n).1 := by
    rw [e]
    refine (mem_all (by omega) _).mpr ⟨deal_fit ⟨rr, by rw [hr]⟩, ?_⟩
    rw [deal_sum (hm_lt rk hn), rng_len]
  exact List.length_pos_of_mem hm
theorem dst_n {r : Rl} {n many limit : Nat} (rk : r.Ok) (hn : 0 < n) (h : many ≤ limit) {z : List Nat} (hz : z ∈ (dst many (rooms r n limit) n).1) : z.length = n ∧ Fit (rooms r n limit) z ∧ z.sum = many := by
  have hs := rooms_sum rk hn limit
  have hl := rooms_len r n limit
  have e := dst_all many (rooms r n limit)
  rw [hl] at e
  have h1 := (dst_beg (many := many) (rs := rooms r n limit) (by omega) (i := n) (by omega) z hz).2
  rw [e] at hz
  obtain ⟨h2, h3⟩ := (mem_all (by omega) z).mp hz
  exact ⟨h1, h2, h3⟩
theorem picksTo_len (r : Rl) (n limit : Nat) (z : List Nat) : ∀ m, m ≤ z.length → (picksTo r n limit z m).length ≤ (z.take m).sum
  | 0, _ => by unfold picksTo; simp
  | m + 1, h => by
    have ih := picksTo_len r n limit z m (by omega)
    rw [picksTo_succ, List.length_append, List.length_take, List.take_succ_eq_append_getElem (by omega), List.sum_append]
    have e : z.getD m 0 = z[m] := by simp [List.getD_eq_getElem?_getD, List.getElem?_eq_getElem (show m < z.length by omega)]
    rw [e]
    simp only [List.sum_cons, List.sum_nil]
    omega
noncomputable def InvW (mk : Option V → Option V → L2.St) (H5 : Hp) (T : Addr) (r : Rl) (n limit : Nat) (z : List Nat) (i : Nat) (σ : L2.St) (H' : Hp) : Prop := ∃ x7 x8, σ = mk x7 x8 ∧ Same H5 H' ∧ H' T = some (.lst ((picksTo r n limit z i).map V.int))
end SC
namespace SC
open PySem L2 PyProof.Rows Ly
theorem cut_takeW (ks : List Int) (j : Nat) : cutV (ks.map V.int) none (some (j : Int)) = (ks.take j).map V.int := by
  by_cases h : j ≤ ks.length
  · exact cut_ints ks j h
  · unfold cutV
    have h1 : HT.sIx (ks.map V.int).length 0 none = 0 := by simp [HT.sIx]
    have h2 : HT.sIx (ks.map V.int).length (ks.map V.int).length (some (j : Int)) = ks.length := by
      simp only [HT.sIx]
      rw [if_neg (by omega), List.length_map]
      omega
    rw [h1, h2]
    show ((ks.map V.int).drop 0).take (ks.length - 0) = _
    rw [List.drop_zero, Nat.sub_zero, ← List.map_take, List.take_of_length_le (Nat.le_refl _), List.take_of_length_le (by omega)]
end SC
set_option Elab.async false
set_option linter.all false
set_option maxRecDepth 100000
set_option exponentiation.threshold 5000
namespace SC
open PySem L2 PyProof.Rows Ly S40
theorem ways_fc {r : Rl} {n : Nat} (rk : r.Ok) (hn : 2 ≤ n) : ∀ (m : Nat) (ks : List Int), ks.length = m → m < n → ways n (hm r n) (fcA r n ks) = (wts n [] (hms r n ks) : Nat) := by
  intro m
  induction m with
  | zero =>
    intro ks hl _
    have e : ks = [] := List.eq_nil_of_length_eq_zero hl
    subst e
    show sumTo n _ = 0
    have : ∀ m, sumTo m (fun i => match fcA r n [] i with | some k => (dist n (hm r n k) i : Int) | none => 0) = 0 := by
      intro m
      exact (sumTo_congr fun i _ => rfl).trans (sumTo_zero (n := m))
    exact this n
  | succ m ih =>
    intro ks hl hm'
    obtain ⟨init, k, rfl⟩ : ∃ init k, ks = init ++ [k] := by
      refine ⟨ks.dropLast, ks.getLast (fun z => by rw [z] at hl; simp at hl), ?_⟩
      exact (List.dropLast_concat_getLast _).symm
    have hli : init.length = m := by rw [List.length_append] at hl; simpa using hl
    have h0 := ih init hli (by omega)
    have hpl := plc_len r n init
    have hh := hm_lt rk (show 0 < n by omega) k
    have ht := tt_lt (s := n) (p := hm r n k) (acc := plc r n init) hh (by omega)
    obtain ⟨_, t2, _⟩ := tt_spec (s := n) (p := hm r n k) (acc := plc r n init) hh (by omega)
    rw [fcA_snoc, ways_set (Nat.mod_lt _ (by omega)) (fcA_none.mpr t2), h0, dist_mod hh ht]
    unfold hms
    rw [List.map_append, List.map_cons, List.map_nil, wts_snoc]
    show _ = ((wts n [] (hms r n init) + tt n (plc r n init) (hm r n k) : Nat) : Int)
    rw [Int.natCast_add]
    rfl
noncomputable def cfO (h : Int → Nat) (p : Nat) : Option Int → Int
  | some k => if h k = p then 1 else 0
  | none => 0
theorem cnt_seq (F : Nat → Option Int) (h : Int → Nat) (p : Nat) : ∀ m, (sumTo m fun i => cfO h p (F i)) = (((seqN F m).countP fun k => decide (h k = p) : Nat) : Int)
  | 0 => rfl
  | m + 1 => by
    show sumTo m (fun i => cfO h p (F i)) + cfO h p (F m) = _
    rw [cnt_seq F h p m, seqN_succ, List.countP_append, Int.natCast_add]
    congr 1
    cases F m with
    | none => rfl
    | some k =>
      show (if h k = p then (1 : Int) else 0) = _
      by_cases c : h k = p
      · rw [if_pos c]
        simp [c]
      · rw [if_neg c]
        simp [c]
theorem wts_wod {r : Rl} {n : Nat} (rk : r.Ok) (hn : 2 ≤ n) {ks : List Int} (hl : ks.length < n) (nd : ks.Nodup) (hb : ∀ k ∈ ks, 0 ≤ k ∧ k ≤ 999999) : wts n [] (hms r n ks) = wod (deal n (hm r n) ks) := by
  obtain ⟨F, ok, hF, _⟩ := fc_lay rk hn ks.length ks rfl hl nd hb
  obtain ⟨_, h2, _⟩ := fc_row rk hn hl nd hb ok hF
  obtain ⟨e, he, hFe⟩ := ok.e
  have hh := hm_lt rk (show 0 < n by omega)
  have h3 := wod_ring he hFe hh (ok.lay.lin he hFe hh)
  have h4 : (List.range n).map (hcn n (hm r n) F) = deal n (hm r n) ks := by
    unfold deal
    refine List.map_congr_left fun p _ => ?_
    unfold hcn
    refine (congrArg Int.toNat (sumTo_congr (g := fun i => cfO (hm r n) p (F i)) fun i _ => ?_)).trans ?_
    · cases F i <;> rfl
    · rw [cnt_seq, Int.toNat_natCast]
      exact (seq_perm ok nd hF).countP_eq _
  rw [h4, ← h2, ways_fc rk hn ks.length ks rfl hl] at h3
  exact Int.ofNat.inj h3.symm
noncomputable def chF (many : Nat) : Nat → List (List Int)
  | 0 => [[]]
  | k + 1 => chF many k ++ ((chF many k).filter fun x => decide (x.length < many)).map fun x => x ++ [(k : Int)]
theorem chF_mem {many : Nat} : ∀ {m : Nat} {x : List Int}, x ∈ chF many m ↔ x.Pairwise (· < ·) ∧ (∀ k ∈ x, 0 ≤ k ∧ k < m) ∧ x.length ≤ many
  | 0, x => by
    show x ∈ [[]] ↔ _
    rw [List.mem_singleton]
    constructor
    · rintro rfl
      exact ⟨List.Pairwise.nil, (fun _ h => nomatch h), Nat.zero_le _⟩
    · rintro ⟨_, h, _⟩
      cases x with
      | nil => rfl
      | cons a b => have := h a (List.mem_cons_self ..); omega
  | m + 1, x => by
    show x ∈ chF many m ++ _ ↔ _
    rw [List.mem_append, chF_mem, List.mem_map]
    constructor
    · rintro (⟨h1, h2, h3⟩ | ⟨y, hy, rfl⟩)
      · exact ⟨h1, fun k hk => by have := h2 k hk; omega, h3⟩
      · rw [List.mem_filter, chF_mem, decide_eq_true_eq] at hy
        obtain ⟨⟨h1, h2, h3⟩, h4⟩ := hy
        refine ⟨List.pairwise_append.mpr ⟨h1, List.pairwise_singleton _ _, fun a ha b hb => ?_⟩, fun k hk => ?_, by rw [List.length_append]; simp; omega⟩
        · rw [List.mem_singleton] at hb
          have := h2 a ha
          omega
        · rcases List.mem_append.mp hk with z | z
          · have := h2 k z; omega
          · rw [List.mem_singleton] at z; omega
    · rintro ⟨h1, h2, h3⟩
      by_cases c : (m : Int) ∈ x
      · right
        have hne : x ≠ [] := fun z => by rw [z] at c; cases c
        have ex := List.dropLast_concat_getLast hne
        have hp := h1
        rw [← ex, List.pairwise_append] at hp
        have hlast : x.getLast hne = m := by
          have hm := h2 _ (List.getLast_mem hne)
          rw [← ex] at c
          rcases List.mem_append.mp c with z | z
          · have := hp.2.2 _ z _ (List.mem_singleton.mpr rfl)
            omega
          · rw [List.mem_singleton] at z
            exact z.symm
        refine ⟨x.dropLast, ?_, by rw [← hlast]; exact ex⟩
        have hlen : x.dropLast.length + 1 = x.length := by
          have := congrArg List.length ex
          rw [List.length_append] at this
          simpa using this
        rw [List.mem_filter, chF_mem, decide_eq_true_eq]
        refine ⟨⟨hp.1, fun k hk => ?_, by omega⟩, by omega⟩
        have h5 := h2 k (List.dropLast_subset _ hk)
        have h6 := hp.2.2 k hk _ (List.mem_singleton.mpr rfl)
        omega
      · left
        exact ⟨h1, fun k hk => by have h5 := h2 k hk; have : k ≠ m := fun z => c (by rw [← z]; exact hk); omega, h3⟩
theorem chF_len (many : Nat) : ∀ m, (chF many m).length ≤ 2 ^ m
  | 0 => Nat.le_refl _
  | m + 1 => by
    have ih := chF_len many m
    show (chF many m ++ _).length ≤ _
    rw [List.length_append, List.length_map, Nat.pow_succ]
    have := List.length_filter_le (fun x => decide (x.length < many)) (chF many m)
    omega
theorem count_take_filter {l : List Int} {f : Int → Nat} {p q d : Nat} : ((l.filter fun k => decide (f k = p)).take d).countP (fun k => decide (f k = q)) = if p = q then min d (l.filter fun k => decide (f k = p)).length else 0 := by
  have all : ∀ k ∈ (l.filter fun k => decide (f k = p)).take d, f k = p := fun k hk => by simpa using (List.mem_filter.mp (List.mem_of_mem_take hk)).2
  by_cases c : p = q
  · rw [if_pos c, List.countP_eq_length.mpr (fun k hk => by simpa [← c] using all k hk), List.length_take]
  · rw [if_neg c, List.countP_eq_zero.mpr (fun k hk => by have := all k hk; simp; omega)]
theorem picks_count {r : Rl} {n limit : Nat} {z : List Nat} (hz : ∀ p, p < n → z.getD p 0 ≤ (chn r n (rng limit) p).length) {q : Nat} : ∀ m, m ≤ n → (picksTo r n limit z m).countP (fun k => decide (hm r n k = q)) = if q < m then z.getD q 0 else 0
  | 0, _ => by unfold picksTo; simp
  | m + 1, h => by
    rw [picksTo_succ, List.countP_append, picks_count hz m (by omega)]
    unfold chn
    rw [count_take_filter]
    have := hz m (by omega)
    unfold chn at this
    by_cases c : q < m
    · rw [if_pos c, if_neg (by omega), if_pos (by omega)]
      rfl
    · by_cases c2 : m = q
      · rw [if_neg c, if_pos c2, if_pos (by omega), ← c2, Nat.min_eq_left this, Nat.zero_add]
      · rw [if_neg c, if_neg c2, if_neg (by omega)]
theorem fit_at : ∀ {rs z : List Nat} {p : Nat}, Fit rs z → z.getD p 0 ≤ rs.getD p 0
  | [], [], p, _ => Nat.le_refl _
  | r :: rs, g :: z, 0, h => h.1
  | r :: rs, g :: z, p + 1, h => by
    have := fit_at (p := p) h.2
    simpa using this
structure KeysOk (r : Rl) (n many limit : Nat) (ks : List Int) : Prop where
  lt : ks.Pairwise (· < ·)
  bd : ∀ k ∈ ks, 0 ≤ k ∧ k < limit
  len : ks.length = many
theorem picksTo_nd {r : Rl} {n limit : Nat} {z : List Nat} : ∀ m, (picksTo r n limit z m).Nodup ∧ ∀ k ∈ picksTo r n limit z m, hm r n k < m ∧ k ∈ rng limit
  | 0 => ⟨List.nodup_nil, (fun _ h => nomatch h)⟩
  | m + 1 => by
    obtain ⟨h1, h2⟩ := picksTo_nd (r := r) (n := n) (limit := limit) (z := z) m
    have h3 : ∀ k ∈ (chn r n (rng limit) m).take (z.getD m 0), hm r n k = m ∧ k ∈ rng limit := fun k hk => by
      have := List.mem_filter.mp (List.mem_of_mem_take hk)
      exact ⟨by simpa using this.2, this.1⟩
    rw [picksTo_succ]
    refine ⟨List.nodup_append.mpr ⟨h1, ((rng_nd limit).sublist List.filter_sublist).sublist (List.take_sublist _ _), fun a ha b hb e => ?_⟩, fun k hk => ?_⟩
    · have := (h2 a ha).1
      have := (h3 b hb).1
      rw [e] at *
      omega
    · rcases List.mem_append.mp hk with w | w
      · have := h2 k w; exact ⟨by omega, this.2⟩
      · have := h3 k w; exact ⟨by omega, this.2⟩
theorem worst_ok {r : Rl} {n many limit : Nat} {z : List Nat} {ks : List Int} (rk : r.Ok) (hn : 2 ≤ n) (h : many ≤ limit) (w : WorstAt r n many limit z ks) : KeysOk r n many limit ks ∧ deal n (hm r n) ks = z := by
  obtain ⟨i, hi, hb⟩ := w.ex
  obtain ⟨zl, zf, zs⟩ := dst_n rk (show 0 < n by omega) h (List.mem_of_getElem? hi)
  have hz : ∀ p, p < n → z.getD p 0 ≤ (chn r n (rng limit) p).length := fun p hp => by
    have h1 := fit_at (p := p) zf
    have h2 := rooms_at (r := r) (limit := limit) hp
    rw [List.getD_eq_getElem?_getD (l := rooms r n limit), h2] at h1
    exact h1
  have hd : deal n (hm r n) ks = z := by
    rw [deal_perm w.pm]
    unfold deal
    refine List.ext_getElem? fun p => ?_
    by_cases hp : p < n
    · rw [List.getElem?_map, List.getElem?_range hp]
      show some (List.countP _ (picksTo r n limit z n)) = _
      rw [picks_count hz n (Nat.le_refl _), if_pos hp, List.getD_eq_getElem?_getD, List.getElem?_eq_getElem (by omega)]
      rfl
    · rw [List.getElem?_eq_none (by rw [List.length_map, List.length_range]; omega), List.getElem?_eq_none (by omega)]
  obtain ⟨nd, hm'⟩ := picksTo_nd (r := r) (n := n) (limit := limit) (z := z) n
  have nd' : ks.Nodup := w.pm.nodup_iff.mpr nd
  refine ⟨⟨?_, fun k hk => rng_mem.mp (hm' k (w.pm.mem_iff.mp hk)).2, ?_⟩, hd⟩
  · exact (w.pw.and nd').imp fun ⟨a, b⟩ => by omega
  · have := deal_sum (hm_lt rk (show 0 < n by omega)) ks
    rw [hd, zs] at this
    exact this.symm
theorem worst_best {r : Rl} {n many limit : Nat} {z : List Nat} {ks x : List Int} (rk : r.Ok) (hn : 2 ≤ n) (h : many ≤ limit) (w : WorstAt r n many limit z ks) (hx : KeysOk r n many limit x) : wod (deal n (hm r n) x) ≤ wod z := by
  obtain ⟨i, hi, hb⟩ := w.ex
  have hs := rooms_sum rk (show 0 < n by omega) limit
  have hl := rooms_len r n limit
  have e := dst_all many (rooms r n limit)
  rw [hl] at e
  have ndx : x.Nodup := hx.lt.imp fun h => by omega
  have hm' : deal n (hm r n) x ∈ (dst many (rooms r n limit) n).1 := by
    rw [e]
    refine (mem_all (by omega) _).mpr ⟨deal_fit ?_, by rw [deal_sum (hm_lt rk (by omega)), hx.len]⟩
    refine ⟨(rng limit).filter fun k => decide (k ∉ x), ?_⟩
    refine (List.perm_ext_iff_of_nodup ?_ (rng_nd limit)).mpr fun k => ?_
    · refine List.nodup_append.mpr ⟨ndx, (rng_nd limit).sublist List.filter_sublist, fun a ha b hb e => ?_⟩
      have := (List.mem_filter.mp hb).2
      rw [decide_eq_true_eq] at this
      exact this (by rw [← e]; exact ha)
    · rw [List.mem_append, List.mem_filter, decide_eq_true_eq]
      constructor
      · rintro (z | z)
        · exact rng_mem.mpr (hx.bd k z)
        · exact z.1
      · intro z
        by_cases c : k ∈ x
        · exact .inl c
        · exact .inr ⟨z, c⟩
  obtain ⟨j, hj⟩ := List.getElem?_of_mem hm'
  have hjl := (List.getElem?_eq_some_iff.mp hj).1
  have := (hb j hjl).1
  unfold ways_ at this
  rw [List.getD_eq_getElem?_getD, hj, List.getD_eq_getElem?_getD, hi] at this
  exact Int.ofNat_le.mp this
theorem best_one {kf : Nat → Int} {n i j : Nat} (hi : i < n) (hj : j < n) (a : Best kf n i) (b : Best kf n j) : i = j := by
  rcases Nat.lt_trichotomy i j with c | c | c
  · have h1 := (b i hi).2 c
    have h2 := (a j hj).1
    omega
  · exact c
  · have h1 := (a j hj).2 c
    have h2 := (b i hi).1
    omega
theorem worst_one {r : Rl} {n many limit : Nat} {z z' : List Nat} {ks ks' : List Int} (w : WorstAt r n many limit z ks) (w' : WorstAt r n many limit z' ks') : z = z' ∧ ks = ks' := by
  obtain ⟨i, hi, hb⟩ := w.ex
  obtain ⟨j, hj, hb'⟩ := w'.ex
  have e := best_one (List.getElem?_eq_some_iff.mp hi).1 (List.getElem?_eq_some_iff.mp hj).1 hb hb'
  subst e
  rw [hi] at hj
  cases hj
  exact ⟨rfl, sorted_eq w.pw w'.pw (w.pm.trans w'.pm.symm)⟩
end SC
set_option Elab.async false
set_option linter.all false
set_option maxRecDepth 100000
set_option exponentiation.threshold 5000
namespace SC
open PySem L2 PyProof.Rows Ly S40
noncomputable def spTold7 : Sp := fun vs H Q _ => ∃ (v : V) (z mi li : Int), vs = [v, .int z, .int mi, .int li] ∧ Plain H v ∧
  (isRuleV H v = false → ∀ H', Same H H' → Q (.str (nm 0)) H') ∧
  (isRuleV H v = true → ¬ (2 ≤ z ∧ z ≤ 64 ∧ 0 ≤ mi ∧ mi ≤ z - 1 ∧ mi ≤ li ∧ li ≤ 64) → ∀ H', Same H H' → Q (.str (nm 2)) H') ∧
  ∀ (r : Rl) (n many limit : Nat), RlAt H v r → r.Ok → z = n → mi = many → li = limit → 2 ≤ n → n ≤ 64 → many < n → many ≤ limit → limit ≤ 64 →
    ((∃ i, i ≤ n ∧ 4000 < (dst many (rooms r n limit) i).1.length) → ∀ H', Same H H' → Q (.str (nm 4)) H') ∧
    (fewD r n many limit → ∀ p l H' z ks, Same H H' → WorstAt r n many limit z ks → H' p = some (.tup [.ref l, .int (wod z : Nat)]) → H' l = some (.lst (ks.map V.int)) → Q (.ref p) H')
noncomputable def spWaysF : Sp := fun vs H Q _ => ∃ (v : V) (r : Rl) (n : Nat) (p : Addr) (ks : List Int), vs = [v, .int n, .ref p] ∧ RlIn H v r n ∧ n ≤ 64 ∧ H p = some (.lst (ks.map V.int)) ∧ (∀ k ∈ ks, 0 ≤ k ∧ k ≤ 999999) ∧ ks.length < n ∧ ∀ H', Same H H' → Q (.int (wts n [] (hms r n ks) : Nat)) H'
noncomputable def InvWF (mk : V → Option V → Option V → L2.St) (H : Hp) (L : Addr) (n : Nat) (hs : List Nat) (i : Nat) (σ : L2.St) (H2 : Hp) : Prop := ∃ x5 x6, σ = mk (.int (wts n [] (hs.take i) : Nat)) x5 x6 ∧ Same H H2 ∧ H2 L = some (.lst (blT n (fps n [] (hs.take i))))
noncomputable def InvWG (mk : V → V → L2.St) (H3 : Hp) (n x t w0 : Nat) (mm : Nat) (σ : L2.St) (H2 : Hp) : Prop := ∃ u, σ = mk (.int ((w0 + u : Nat) : Int)) (.int (((x + u) % n : Nat) : Int)) ∧ H2 = H3 ∧ u ≤ t ∧ mm = t - u
noncomputable def ListsZ (H : Hp) (as : List Addr) (L : List (List Int)) : Prop := as.length = L.length ∧ ∀ (i : Nat) (a : Addr) (x : List Int), as[i]? = some a → L[i]? = some x → H a = some (.lst (x.map V.int))
theorem ListsZ.same {H H' : Hp} {as : List Addr} {L : List (List Int)} (s : Same H H') (h : ListsZ H as L) : ListsZ H' as L := ⟨h.1, fun i a x h1 h2 => s _ _ (h.2 i a x h1 h2)⟩
theorem ListsZ.app {H : Hp} {rs rs' : List Addr} {L L' : List (List Int)} (a : ListsZ H rs L) (b : ListsZ H rs' L') : ListsZ H (rs ++ rs') (L ++ L') := by
  refine ⟨by rw [List.length_append, List.length_append, a.1, b.1], fun i x y h1 h2 => ?_⟩
  by_cases c : i < rs.length
  · rw [List.getElem?_append_left c] at h1
    rw [List.getElem?_append_left (by rw [← a.1]; exact c)] at h2
    exact a.2 i x y h1 h2
  · rw [List.getElem?_append_right (by omega)] at h1
    rw [List.getElem?_append_right (by rw [← a.1]; omega), ← a.1] at h2
    exact b.2 _ x y h1 h2
theorem ListsZ.upd {H : Hp} {rs : List Addr} {L : List (List Int)} {b : Addr} {o : HO} (a : ListsZ H rs L) (h : ∀ x ∈ rs, x ≠ b) : ListsZ (upd H b o) rs L := ⟨a.1, fun i x y h1 h2 => by rw [upd_ne (h x (List.mem_of_getElem? h1))]; exact a.2 i x y h1 h2⟩
noncomputable def spChoices : Sp := fun vs H Q _ => ∃ (limit many : Nat), vs = [.int limit, .int many] ∧ limit ≤ 9 ∧ many ≤ 9 ∧ ∀ l as H', Same H H' → H' l = some (.lst (as.map V.ref)) → ListsZ H' as ((chF many limit).filter fun x => decide (x.length = many)) → Q (.ref l) H'
noncomputable def InvCh (many : Nat) (mk : Addr → Option V → L2.St) (H : Hp) (i : Nat) (σ : L2.St) (H2 : Hp) : Prop := ∃ l as x3, σ = mk l x3 ∧ Same H H2 ∧ H2 l = some (.lst (as.map V.ref)) ∧ ListsZ H2 as (chF many i)
noncomputable def RCh (H1 : Hp) (D : Addr) (src : List (List Int)) (keep : List Int → Bool) (f : List Int → List Int) (i : Nat) (ys : List V) (H : Hp) : Prop := ∃ as : List Addr, ys = as.map V.ref ∧ ListsZ H as (((src.take i).filter keep).map f) ∧ ∀ a ∈ as, a ≠ D
end SC
namespace SC
open PySem L2 PyProof.Rows Ly S40
section
variable {H1 H H' : Hp} {D : Addr} {src : List (List Int)} {keep : List Int → Bool} {f : List Int → List Int} {i : Nat} {ys : List V} {y : List Int} {p : Addr}
theorem RCh.zero : RCh H1 D src keep f 0 [] H := ⟨[], rfl, ⟨rfl, fun _ _ _ h => nomatch h⟩, fun _ h => nomatch h⟩
theorem RCh.mono {o : HO} (h : RCh H1 D src keep f i ys H) : RCh H1 D src keep f i ys (upd H D o) := by
  obtain ⟨as, e, hl, hn⟩ := h
  exact ⟨as, e, hl.upd hn, hn⟩
theorem take_at {α : Type} {l : List α} {j : Nat} {y : α} (h : l[j]? = some y) : l.take (j + 1) = l.take j ++ [y] := by
  obtain ⟨hj, e⟩ := List.getElem?_eq_some_iff.mp h
  rw [List.take_succ_eq_append_getElem hj, e]
theorem RCh.step (h : RCh H1 D src keep f i ys H) (hy : src[i]? = some y) (hk : keep y = true) (s : Same H H') (hp : H' p = some (.lst ((f y).map V.int))) (hne : p ≠ D) : RCh H1 D src keep f (i + 1) (ys ++ [.ref p]) H' := by
  obtain ⟨as, rfl, hl, hn⟩ := h
  refine ⟨as ++ [p], by rw [List.map_append]; rfl, ?_, fun a ha => ?_⟩
  · rw [take_at hy, List.filter_append, List.map_append]
    have e : (List.filter keep [y]).map f = [f y] := by simp [hk]
    rw [e]
    refine (hl.same s).app ⟨rfl, fun j a x h1 h2 => ?_⟩
    have hj : j < 1 := (List.getElem?_eq_some_iff.mp h1).1
    have ej : j = 0 := by omega
    subst ej
    cases h1
    cases h2
    exact hp
  · rcases List.mem_append.mp ha with z | z
    · exact hn a z
    · rw [List.mem_singleton] at z; rw [z]; exact hne
theorem RCh.skip (h : RCh H1 D src keep f i ys H) (hy : src[i]? = some y) (hk : keep y = false) : RCh H1 D src keep f (i + 1) ys H := by
  obtain ⟨as, e, hl, hn⟩ := h
  refine ⟨as, e, ?_, hn⟩
  rw [take_at hy, List.filter_append]
  have e : List.filter keep [y] = [] := by simp [hk]
  rw [e, List.append_nil]
  exact hl
end
end SC
namespace SC
open PySem L2 PyProof.Rows Ly S40
noncomputable def st70 (a : Addr) (v1 v2 v3 v4 v5 v6 v7 v8 v9 v10 v11 : Option V) : L2.St := [some (.ref a), v1, v2, v3, v4, v5, v6, v7, v8, v9, v10, v11]
noncomputable def Inv70 (a : Addr) (H : Hp) (_ : Nat) (σ : L2.St) (H2 : Hp) : Prop := ∃ v1 v2 v3 v4 v5 v6 v7 v8 v9 v10 v11, σ = st70 a v1 v2 v3 v4 v5 v6 v7 v8 v9 v10 v11 ∧ Same H H2
theorem few9 {r : Rl} {n many limit : Nat} (rk : r.Ok) (hn : 0 < n) (h : limit ≤ 9) : fewD r n many limit := fun i hi => by
  have hl := rooms_len r n limit
  have hs := rooms_sum rk hn limit
  exact Nat.le_trans (dst_small (m := 9) (by omega) (by omega)) (by decide)
end SC
namespace SC
open PySem L2 PyProof.Rows Ly S40
noncomputable def isLT : Ty6 → Bool | .lst => true | _ => false
theorem kit_list {K : PySem.W.Frag} (T : Ty6) : ∀ u, RelV (.ty "list") u → PySem.W.kitOne K (.type T.nm) u = some (isLT T) := fun u e => by cases e; cases T <;> kernel_rfl
noncomputable def R3 : List Nat := List.replicate 3 0 ++ [64] ++ List.replicate 60 0
noncomputable def Z3 : List Nat := List.replicate 3 0 ++ [40] ++ List.replicate 60 0
theorem rooms3 : rooms (.told [3]) 64 64 = R3 := by decide +kernel
theorem few3 : fewD (.told [3]) 64 40 64 := by
  have h : (List.range 65).all (fun i => decide ((dst 40 R3 i).1.length ≤ 4000)) = true := by decide +kernel
  intro i hi
  rw [rooms3]
  exact of_decide_eq_true (List.all_eq_true.mp h i (List.mem_range.mpr (by omega)))
theorem dst3 : (dst 40 R3 64).1 = [Z3] := by decide +kernel
theorem wod3 : wod Z3 = 780 := by decide +kernel
theorem told780 {z : List Nat} {ks : List Int} (w : WorstAt (.told [3]) 64 40 64 z ks) : wod z = 780 := by
  obtain ⟨i, hi, _⟩ := w.ex
  have hm := List.mem_of_getElem? hi
  rw [rooms3, dst3, List.mem_singleton] at hm
  rw [hm, wod3]
theorem rooms1 : rooms (.times 1 0) 32 32 = List.replicate 32 1 := by decide +kernel
theorem many1 : ∃ i, i ≤ 32 ∧ 4000 < (dst 12 (rooms (.times 1 0) 32 32) i).1.length := by
  refine ⟨12, by decide, ?_⟩
  rw [rooms1]
  decide +kernel
end SC
namespace SC
open PySem L2 PyProof.Rows Ly S40
theorem rl_none7 {H : Hp} {r : Rl} (h : RlAt H .non r) : False := by
  cases r with
  | times a b => obtain ⟨p, e, _⟩ := h; cases e
  | high a b => obtain ⟨p, e, _⟩ := h; cases e
  | told ns => obtain ⟨p, q, e, _⟩ := h; cases e
noncomputable def badW (j : Nat) : V := .str (if j = 0 then "BadRule" else "BadSize")
structure Tp (H : Hp) (v : V) (j : Nat) (x : V) : Prop where
  ex : ∃ (p : Addr) (v0 : V) (z mi li : Int), x = .ref p ∧ H p = some (.tup [v0, .int z, .int mi, .int li]) ∧ ((j = 0 ∧ v0 = .non) ∨ (j ≠ 0 ∧ v0 = v ∧ ¬ (2 ≤ z ∧ z ≤ 64 ∧ 0 ≤ mi ∧ mi ≤ z - 1 ∧ mi ≤ li ∧ li ≤ 64)))
theorem bad7 {H : Hp} {v v0 : V} {r : Rl} {j : Nat} {z mi li : Int} {Q : VK} {E : XK} (ra : RlAt H v r) (rk : r.Ok) (h : (j = 0 ∧ v0 = .non) ∨ (j ≠ 0 ∧ v0 = v ∧ ¬ (2 ≤ z ∧ z ≤ 64 ∧ 0 ≤ mi ∧ mi ≤ z - 1 ∧ mi ≤ li ∧ li ≤ 64))) (q : ∀ H', Same H H' → Q (badW j) H') : spTold7 [v0, .int z, .int mi, .int li] H Q E := by
  rcases h with ⟨rfl, rfl⟩ | ⟨hj, rfl, hb⟩
  · exact ⟨.non, z, mi, li, rfl, plain_non.1, fun _ H' s' => q H' s', fun w => tf w plain_non.2, fun r' n m l ra' => (rl_none7 ra').elim⟩
  · refine ⟨v0, z, mi, li, rfl, ra.plain rk, fun w => tf (ra.rule rk) w, fun _ _ H' s' => ?_, fun r' n m l ra' rk' e1 e2 e3 h1 h2 h3 h4 h5 => absurd ⟨by omega, by omega, by omega, by omega, by omega, by omega⟩ hb⟩
    have := q H' s'
    unfold badW at this
    rw [if_neg hj] at this
    exact this
end SC
set_option Elab.async false
set_option linter.all false
set_option maxRecDepth 100000
set_option exponentiation.threshold 5000
namespace S70
open PySem L2 SC PyProof.Rows
noncomputable def top (i : Nat) : Stmt := PySem.Challenge.pw_strewn_k70_whole_worst.main.body.getD i (.Pass ⟨0, 0, 0, 0⟩)
structure Tx (K : PySem.W.Frag) (mg : Str → Option Value) (cl : CN → Addr) : Prop where
  nisinstance : mg "isinstance" = none
  nbool : mg "bool" = none
  nint : mg "int" = none
  nlen : mg "len" = none
  ntuple : mg "tuple" = none
  nstr : mg "str" = none
  nall : mg "all" = none
  nsum : mg "sum" = none
  nmax : mg "max" = none
  nmin : mg "min" = none
  nrange : mg "range" = none
  nlist : mg "list" = none
  nsorted : mg "sorted" = none
  nzip : mg "zip" = none
  nset : mg "set" = none
  nValueError : mg "ValueError" = none
  cMOST_KEY : ∃ u, mg "MOST_KEY" = some u ∧ RelV (.int 999999) u
  cLEAST_SIZE : ∃ u, mg "LEAST_SIZE" = some u ∧ RelV (.int 2) u
  cMOST_SIZE : ∃ u, mg "MOST_SIZE" = some u ∧ RelV (.int 64) u
  cMOST_FACTOR : ∃ u, mg "MOST_FACTOR" = some u ∧ RelV (.int 999999) u
  cLEAST_BITS : ∃ u, mg "LEAST_BITS" = some u ∧ RelV (.int 1) u
  cMOST_BITS : ∃ u, mg "MOST_BITS" = some u ∧ RelV (.int 30) u
  cMOST_TOLD : ∃ u, mg "MOST_TOLD" = some u ∧ RelV (.int 999) u
  cLEAST_TOLD_COUNT : ∃ u, mg "LEAST_TOLD_COUNT" = some u ∧ RelV (.int 1) u
  cMOST_TOLD_COUNT : ∃ u, mg "MOST_TOLD_COUNT" = some u ∧ RelV (.int 64) u
  cMOST_LIMIT : ∃ u, mg "MOST_LIMIT" = some u ∧ RelV (.int 64) u
  cMOST_DEALINGS : ∃ u, mg "MOST_DEALINGS" = some u ∧ RelV (.int 4000) u
  mStrewError : mg "StrewError" = some (.ref (cl .StrewError))
  xStrewError : ExcC K (cl .StrewError)
  mBadRule : mg "BadRule" = some (.ref (cl .BadRule))
  xBadRule : ExcC K (cl .BadRule)
  mBadKey : mg "BadKey" = some (.ref (cl .BadKey))
  xBadKey : ExcC K (cl .BadKey)
  mBadSize : mg "BadSize" = some (.ref (cl .BadSize))
  xBadSize : ExcC K (cl .BadSize)
  mFull : mg "Full" = some (.ref (cl .Full))
  xFull : ExcC K (cl .Full)
  mTooMany : mg "TooMany" = some (.ref (cl .TooMany))
  xTooMany : ExcC K (cl .TooMany)
  wd0 : Wd K cl (cl .BadRule) 0
  wd1 : Wd K cl (cl .BadKey) 1
  wd2 : Wd K cl (cl .BadSize) 2
  wd3 : Wd K cl (cl .Full) 3
  wd4 : Wd K cl (cl .TooMany) 4
end S70
set_option Elab.async false
set_option linter.all false
set_option maxRecDepth 100000
set_option exponentiation.threshold 5000
namespace S70
open PySem L2 SC PyProof.Rows S40 Ly
theorem sc_power : FnScope ["base", "exponent", "told", "step"] ["base", "exponent"] (defScope (top 8)) := ⟨rfl, rfl, rfl, by decide +kernel, rfl, by decide +kernel, by decide +kernel⟩
theorem v_power : Vs ["base", "exponent", "told", "step"] (defScope (top 8)) := Vs.of (by decide +kernel)
theorem l_power : Ls ["base", "exponent", "told", "step"] (defScope (top 8)) := Ls.of sc_power.nd (by decide +kernel)
theorem g_power : Gs ["range"] (defScope (top 8)) := Gs.of (by decide +kernel)
theorem ok_power {P : Program} {w : World} {K : PySem.W.Frag} {mg : Str → Option Value} {base : Heap} {f : Addr} {fd : FuncData} {cl : CN → Addr} (F : Fun K "power" "power" (top 8) f fd) (T : Tx K mg cl) :
    FnOk P w K mg base (CX1 P w) true 1 f fd ["base", "exponent"] (spPow) := by
  have S := sc_power
  have Vv := v_power
  have Lo := l_power
  have Gg := g_power
  refine F.ok S (fun vs H Q E h => ?_) (fun cdv A outer s H vs Q E hx hcx hh hr D h => ?_)
  · obtain ⟨b, e, rfl, _⟩ := h; rfl
  obtain ⟨b, e, rfl, ⟨b0, b1⟩, ⟨e0, e1⟩, q⟩ := h
  have hp := passesXE (E := E) D
  refine ⟨_, (pss_cons (set_v (i := 2) Lo pe_int)
    (pss_cons (ps_for hp (iR1 (i := 0) Gg T.nrange (pa_cons (vn Vv 1) pa_nil)) (tgt_v (i := 3) Lo)
    (pss_one (set_v (i := 2) Lo (pe_op op_mulA (vn Vv 2) (vn Vv 0)))))
    (pss_one (ps_ret (vn Vv 2))))), ?_⟩
  refine ⟨_, rfl, e, rfl, by omega, by omega, for_range (n := e.toNat) (fun i σ H2 => ∃ v, σ = [some (.int b), some (.int e), some (.int (b ^ i)), v] ∧ H2 = H) ⟨none, by rw [Int.pow_zero]; rfl, rfl⟩ (fun i σ H2 hi ⟨v, z1, z2⟩ => ?_) (fun σ H2 ⟨v, z1, z2⟩ => ?_)⟩
  · subst z1 z2
    refine ⟨_, rfl, _, rfl, _, _, rfl, rfl, mulC b0 b1, some (.int (0 + i)), ?_, rfl⟩
    rw [Int.pow_succ]
    rfl
  · subst z1 z2
    exact ⟨_, rfl, q⟩
end S70
set_option Elab.async false
set_option linter.all false
set_option maxRecDepth 100000
set_option exponentiation.threshold 5000
namespace S70
open PySem L2 SC PyProof.Rows S40 Ly
theorem sc_is_whole : FnScope ["thing", "least", "most"] ["thing", "least", "most"] (defScope (top 19)) := ⟨rfl, rfl, rfl, by decide +kernel, rfl, by decide +kernel, by decide +kernel⟩
theorem v_is_whole : Vs ["thing", "least", "most"] (defScope (top 19)) := Vs.of (by decide +kernel)
theorem l_is_whole : Ls ["thing", "least", "most"] (defScope (top 19)) := Ls.of sc_is_whole.nd (by decide +kernel)
theorem g_is_whole : Gs ["isinstance", "bool", "int"] (defScope (top 19)) := Gs.of (by decide +kernel)
theorem ok_is_whole {P : Program} {w : World} {K : PySem.W.Frag} {mg : Str → Option Value} {base : Heap} {f : Addr} {fd : FuncData} {cl : CN → Addr} (F : Fun K "is_whole" "is_whole" (top 19) f fd) (T : Tx K mg cl) :
    FnOk P w K mg base (CX1 P w) true 1 f fd ["thing", "least", "most"] (spWhole) := by
  have S := sc_is_whole
  have Vv := v_is_whole
  have Lo := l_is_whole
  have Gg := g_is_whole
  refine F.ok S (fun vs H Q E h => ?_) (fun cdv A outer s H vs Q E hx hcx hh hr D h => ?_)
  · obtain ⟨x, lo, hi, T, rfl, _⟩ := h; rfl
  obtain ⟨x, lo, hi, ty, rfl, hk, q⟩ := h
  refine ⟨_, (pss_cons (ps_if (PW.pt (pw_or (pt_val (cB (i := 0) Gg (call_isi) T.nisinstance bt_isinstance (pa_cons (vn Vv 0) (pa_cons (nTy (i := 1) Gg T.nbool bt_bool) pa_nil)))) (pw_or1 (pt_not (pt_val (cB (i := 0) Gg (call_isi) T.nisinstance bt_isinstance (pa_cons (vn Vv 0) (pa_cons (nTy (i := 2) Gg T.nint bt_int) pa_nil)))))))) (pss_one (ps_ret pe_bl)) pss_nil)
    (pss_one (ps_ret (pe_chain op_le op_le (vn Vv 1) (vn Vv 0) (vn Vv 2))))), ?_⟩
  refine ⟨_, rfl, _, _, _, _, rfl, hk.ty, kit_bool ty, _, rfl, ?_⟩
  cases hk with
  | bl b => exact iteT (iteT q)
  | int i =>
    refine iteF ⟨_, rfl, _, _, _, _, rfl, (Kn.int i).ty, kit_int .int, _, rfl, iteF ?_⟩
    refine ⟨_, rfl, _, rfl, _, _, rfl, rfl, _, rfl, ite2 (fun c => ⟨_, rfl, _, _, rfl, rfl, ?_⟩) fun c => ?_⟩
    · have q' : Q (.bl (decide (lo ≤ i) && decide (i ≤ hi))) H := q
      rw [c, Bool.true_and] at q'
      exact q'
    · have q' : Q (.bl (decide (lo ≤ i) && decide (i ≤ hi))) H := q
      rw [Bool.eq_false_iff.mpr c, Bool.false_and] at q'
      exact q'
  | non => exact iteF ⟨_, rfl, _, _, _, _, rfl, Kn.non.ty, kit_int .non, _, rfl, iteT q⟩
  | str z => exact iteF ⟨_, rfl, _, _, _, _, rfl, (Kn.str z).ty, kit_int .str, _, rfl, iteT q⟩
  | lst e => exact iteF ⟨_, rfl, _, _, _, _, rfl, (Kn.lst e).ty, kit_int .lst, _, rfl, iteT q⟩
  | tup e => exact iteF ⟨_, rfl, _, _, _, _, rfl, (Kn.tup e).ty, kit_int .tup, _, rfl, iteT q⟩
end S70
set_option Elab.async false
set_option linter.all false
set_option maxRecDepth 100000
set_option exponentiation.threshold 5000
namespace S70
open PySem L2 SC PyProof.Rows S40 Ly
theorem sc_is_times_rule : FnScope ["rule"] ["rule"] (defScope (top 20)) := ⟨rfl, rfl, rfl, by decide +kernel, rfl, by decide +kernel, by decide +kernel⟩
theorem v_is_times_rule : Vs ["rule"] (defScope (top 20)) := Vs.of (by decide +kernel)
theorem l_is_times_rule : Ls ["rule"] (defScope (top 20)) := Ls.of sc_is_times_rule.nd (by decide +kernel)
theorem g_is_times_rule : Gs ["len", "is_whole", "MOST_FACTOR"] (defScope (top 20)) := Gs.of (by decide +kernel)
theorem ok_is_times_rule {P : Program} {w : World} {K : PySem.W.Frag} {mg : Str → Option Value} {base : Heap} {f : Addr} {fd : FuncData} {cl : CN → Addr} (F : Fun K "is_times_rule" "is_times_rule" (top 20) f fd) (T : Tx K mg cl) (O_is_whole : Own P w K mg base true 1 "is_whole" ["thing", "least", "most"] (spWhole)) :
    FnOk P w K mg base (CX1 P w) true 2 f fd ["rule"] (spTimes) := by
  have S := sc_is_times_rule
  have Vv := v_is_times_rule
  have Lo := l_is_times_rule
  have Gg := g_is_times_rule
  refine F.ok S (fun vs H Q E h => ?_) (fun cdv A outer s H vs Q E hx hcx hh hr D h => ?_)
  · obtain ⟨p, xs, rfl, _⟩ := h; rfl
  obtain ⟨p, xs, rfl, hp, hk, q⟩ := h
  refine ⟨_, (pss_one (ps_ret (pe_and (pe_cmpR op_eq (cB (i := 0) Gg (call_len_seq) T.nlen bt_len (pa_cons (vn Vv 0) pa_nil)) pe_int (nomark _)) (pe_and (cOwn (i := 1) Gg O_is_whole (hr.mono (by decide)) passX (pa_cons (pe_ix ix_tup (vn Vv 0) pe_int (fun _ _ => rfl)) (pa_cons pe_int (pa_cons (nCon (i := 2) Gg T.cMOST_FACTOR) pa_nil)))) (pe_one (cOwn (i := 1) Gg O_is_whole (hr.mono (by decide)) passX (pa_cons (pe_ix ix_tup (vn Vv 0) pe_int (fun _ _ => rfl)) (pa_cons pe_int (pa_cons (nCon (i := 2) Gg T.cMOST_FACTOR) pa_nil))))))))), ?_⟩
  refine ⟨_, rfl, p, xs, rfl, .inr (SqT.of hp), rfl, _, rfl, ite2 (fun c => ?_) fun c => ?_⟩
  · have c' : xs.length = 3 := by have := V.int.inj (of_decide_eq_true c); omega
    obtain ⟨x0, x1, x2, rfl⟩ := len3 c'
    obtain ⟨T1, k1⟩ := hk x1 (by simp)
    obtain ⟨T2, k2⟩ := hk x2 (by simp)
    refine ⟨_, rfl, p, _, _, x1, rfl, rfl, SqT.of hp, rfl, x1, 0, 999999, T1, rfl, k1, _, rfl, ite2 (fun c1 => ?_) fun c1 => ?_⟩
    · refine ⟨_, rfl, p, _, _, x2, rfl, rfl, SqT.of hp, rfl, x2, 0, 999999, T2, rfl, k2, ?_⟩
      have q' : Q (.bl (wholeV x1 0 999999 && wholeV x2 0 999999)) H := q
      rw [c1, Bool.true_and] at q'
      exact q'
    · have q' : Q (.bl (wholeV x1 0 999999 && wholeV x2 0 999999)) H := q
      rw [Bool.eq_false_iff.mpr c1, Bool.false_and] at q'
      exact q'
  · rw [isTimes_no (fun e => c (decide_eq_true (by rw [e]; rfl)))] at q
    exact q
end S70
set_option Elab.async false
set_option linter.all false
set_option maxRecDepth 100000
set_option exponentiation.threshold 5000
namespace S70
open PySem L2 SC PyProof.Rows S40 Ly
theorem sc_is_high_rule : FnScope ["rule"] ["rule"] (defScope (top 21)) := ⟨rfl, rfl, rfl, by decide +kernel, rfl, by decide +kernel, by decide +kernel⟩
theorem v_is_high_rule : Vs ["rule"] (defScope (top 21)) := Vs.of (by decide +kernel)
theorem l_is_high_rule : Ls ["rule"] (defScope (top 21)) := Ls.of sc_is_high_rule.nd (by decide +kernel)
theorem g_is_high_rule : Gs ["len", "is_whole", "MOST_FACTOR", "LEAST_BITS", "MOST_BITS"] (defScope (top 21)) := Gs.of (by decide +kernel)
theorem ok_is_high_rule {P : Program} {w : World} {K : PySem.W.Frag} {mg : Str → Option Value} {base : Heap} {f : Addr} {fd : FuncData} {cl : CN → Addr} (F : Fun K "is_high_rule" "is_high_rule" (top 21) f fd) (T : Tx K mg cl) (O_is_whole : Own P w K mg base true 1 "is_whole" ["thing", "least", "most"] (spWhole)) :
    FnOk P w K mg base (CX1 P w) true 2 f fd ["rule"] (spHigh) := by
  have S := sc_is_high_rule
  have Vv := v_is_high_rule
  have Lo := l_is_high_rule
  have Gg := g_is_high_rule
  refine F.ok S (fun vs H Q E h => ?_) (fun cdv A outer s H vs Q E hx hcx hh hr D h => ?_)
  · obtain ⟨p, xs, rfl, _⟩ := h; rfl
  obtain ⟨p, xs, rfl, hp, hk, q⟩ := h
  refine ⟨_, (pss_one (ps_ret (pe_and (pe_cmpR op_eq (cB (i := 0) Gg (call_len_seq) T.nlen bt_len (pa_cons (vn Vv 0) pa_nil)) pe_int (nomark _)) (pe_and (cOwn (i := 1) Gg O_is_whole (hr.mono (by decide)) passX (pa_cons (pe_ix ix_tup (vn Vv 0) pe_int (fun _ _ => rfl)) (pa_cons pe_int (pa_cons (nCon (i := 2) Gg T.cMOST_FACTOR) pa_nil)))) (pe_one (cOwn (i := 1) Gg O_is_whole (hr.mono (by decide)) passX (pa_cons (pe_ix ix_tup (vn Vv 0) pe_int (fun _ _ => rfl)) (pa_cons (nCon (i := 3) Gg T.cLEAST_BITS) (pa_cons (nCon (i := 4) Gg T.cMOST_BITS) pa_nil))))))))), ?_⟩
  refine ⟨_, rfl, p, xs, rfl, .inr (SqT.of hp), rfl, _, rfl, ite2 (fun c => ?_) fun c => ?_⟩
  · have c' : xs.length = 3 := by have := V.int.inj (of_decide_eq_true c); omega
    obtain ⟨x0, x1, x2, rfl⟩ := len3 c'
    obtain ⟨T1, k1⟩ := hk x1 (by simp)
    obtain ⟨T2, k2⟩ := hk x2 (by simp)
    refine ⟨_, rfl, p, _, _, x1, rfl, rfl, SqT.of hp, rfl, x1, 0, 999999, T1, rfl, k1, _, rfl, ite2 (fun c1 => ?_) fun c1 => ?_⟩
    · refine ⟨_, rfl, p, _, _, x2, rfl, rfl, SqT.of hp, rfl, x2, 1, 30, T2, rfl, k2, ?_⟩
      have q' : Q (.bl (wholeV x1 0 999999 && wholeV x2 1 30)) H := q
      rw [c1, Bool.true_and] at q'
      exact q'
    · have q' : Q (.bl (wholeV x1 0 999999 && wholeV x2 1 30)) H := q
      rw [Bool.eq_false_iff.mpr c1, Bool.false_and] at q'
      exact q'
  · rw [isHigh_no (fun e => c (decide_eq_true (by rw [e]; rfl)))] at q
    exact q
end S70
set_option Elab.async false
set_option linter.all false
set_option maxRecDepth 100000
set_option exponentiation.threshold 5000
namespace S70
open PySem L2 SC PyProof.Rows S40 Ly
theorem sc_is_told_rule : FnScope ["rule"] ["rule"] (defScope (top 22)) := ⟨rfl, rfl, rfl, by decide +kernel, rfl, by decide +kernel, by decide +kernel⟩
theorem v_is_told_rule : Vs ["rule"] (defScope (top 22)) := Vs.of (by decide +kernel)
theorem l_is_told_rule : Ls ["rule"] (defScope (top 22)) := Ls.of sc_is_told_rule.nd (by decide +kernel)
theorem g_is_told_rule : Gs ["len", "isinstance", "tuple", "LEAST_TOLD_COUNT", "MOST_TOLD_COUNT", "all"] (defScope (top 22)) := Gs.of (by decide +kernel)
theorem ok_is_told_rule {P : Program} {w : World} {K : PySem.W.Frag} {mg : Str → Option Value} {base : Heap} {f : Addr} {fd : FuncData} {cl : CN → Addr} (F : Fun K "is_told_rule" "is_told_rule" (top 22) f fd) (T : Tx K mg cl) (O_is_whole : Own P w K mg base true 1 "is_whole" ["thing", "least", "most"] (spWhole)) :
    FnOk P w K mg base (CX1 P w) true 2 f fd ["rule"] (spTold) := by
  have S := sc_is_told_rule
  have Vv := v_is_told_rule
  have Lo := l_is_told_rule
  have Gg := g_is_told_rule
  refine F.ok S (fun vs H Q E h => ?_) (fun cdv A outer s H vs Q E hx hcx hh hr D h => ?_)
  · obtain ⟨p, xs, rfl, _⟩ := h; rfl
  obtain ⟨p, xs, rfl, hp, hk, q⟩ := h
  refine ⟨_, (pss_cons (ps_if (PW.pt (pw_or (pt_cmpR op_ne (cB (i := 0) Gg (call_len_seq) T.nlen bt_len (pa_cons (vn Vv 0) pa_nil)) pe_int (nomark _)) (pw_or1 (pt_not (pt_val (cB (i := 1) Gg (call_isi) T.nisinstance bt_isinstance (pa_cons (pe_ix ix_tup (vn Vv 0) pe_int (fun _ _ => rfl)) (pa_cons (nTy (i := 2) Gg T.ntuple bt_tuple) pa_nil)))))))) (pss_one (ps_ret pe_bl)) pss_nil)
    (pss_cons (ps_if (pt_not (pt_chain op_le op_le (nCon (i := 3) Gg T.cLEAST_TOLD_COUNT) (cB (i := 0) Gg (call_len_seq) T.nlen bt_len (pa_cons (pe_ix ix_tup (vn Vv 0) pe_int (fun _ _ => rfl)) pa_nil)) (nCon (i := 4) Gg T.cMOST_TOLD_COUNT))) (pss_one (ps_ret pe_bl)) pss_nil)
    (pss_one (ps_ret (cB (i := 5) Gg (call_all) T.nall bt_all (pa_cons (cmp (Nc := ["number"]) (caps := [none]) (j := 0) (N := ["rule"]) (sc := defScope (top 22)) (Lc := ["is_whole", "MOST_TOLD"]) ⟨rfl, by decide +kernel, by decide +kernel, by decide +kernel, rfl, by decide +kernel, by decide +kernel, rfl, rfl, by decide +kernel⟩ (pi_tup (pe_ix ix_tup (vn Vv 0) pe_int (fun _ _ => rfl))) (fun _ _ _ _ _ _ Vv Gg => pf_nil) (fun _ _ _ _ _ _ Vv Gg => (cOwn (i := 0) Gg O_is_whole (hr.mono (by decide)) passN (pa_cons (vn Vv 0) (pa_cons pe_int (pa_cons (nCon (i := 1) Gg T.cMOST_TOLD) pa_nil)))))) pa_nil)))))), ?_⟩
  refine ⟨_, rfl, p, xs, rfl, .inr (SqT.of hp), rfl, _, rfl, ite2 (fun c => ?_) fun c => ?_⟩
  · refine iteT ?_
    have e : xs.length ≠ 2 := fun e => by
      rw [e] at c
      exact absurd c (by decide)
    rw [isTold_no e] at q
    exact q H (Same.refl H)
  · have c' : xs.length = 2 := by
      by_cases e : xs.length = 2
      · exact e
      · exfalso
        refine c ?_
        rw [decide_eq_false (fun z => e (by have := V.int.inj z; omega))]
        rfl
    obtain ⟨x0, x1, rfl⟩ := len2 c'
    obtain ⟨⟨T1, k1⟩, k2⟩ := hk x1 (by simp)
    refine ⟨_, rfl, p, _, _, x1, rfl, rfl, SqT.of hp, rfl, _, _, _, _, rfl, k1.ty, kit_tuple T1, _, rfl, ?_⟩
    cases e1 : T1.isT with
    | false =>
      refine iteT ?_
      have q' := q H (Same.refl H)
      have z : isToldV H [x0, x1] = false := by simp [isToldV, tupV_no k1 e1]
      rw [z] at q'
      exact q'
    | true =>
      obtain ⟨a, ns, rfl, ha, hv⟩ := tupV_of k1 e1
      obtain ⟨hl, hn⟩ := k2 ns hv
      have z : isToldV H [x0, .ref a] = ((decide (1 ≤ ns.length) && decide (ns.length ≤ 64)) && ns.all fun z => wholeV z 0 999) := by simp only [isToldV, hv]
      rw [z] at q
      refine iteF ⟨_, rfl, p, _, _, .ref a, rfl, rfl, SqT.of hp, rfl, a, ns, rfl, .inr (SqT.of ha), _, _, rfl, rfl, _, rfl, ite2 (fun c1 => ?_) fun c1 => ?_⟩
      · have d1 : decide (1 ≤ ns.length) = true := by
          have := of_decide_eq_true c1
          exact decide_eq_true (by omega)
        rw [d1, Bool.true_and] at q
        refine ⟨_, _, rfl, rfl, _, rfl, ?_⟩
        cases e64 : decide ((ns.length : Int) ≤ 64) with
        | false =>
          refine iteT ?_
          have d2 : decide (ns.length ≤ 64) = false := decide_eq_false fun z => by
            have := of_decide_eq_false e64
            omega
          rw [d2, Bool.false_and] at q
          exact q H (Same.refl H)
        | true =>
          refine iteF ?_
          have d2 : decide (ns.length ≤ 64) = true := decide_eq_true (by have := of_decide_eq_true e64; omega)
          rw [d2, Bool.true_and] at q
          refine ⟨_, rfl, p, _, _, .ref a, rfl, rfl, SqT.of hp, rfl, a, rfl, ⟨ns, SqT.of ha⟩, fun D hD => comp_tup (xs := ns) (fun z => .bl (wholeV z 0 999)) (SqT.of ha) hD (by omega) (fun x ys Q' hx hQ => ?_) ?_⟩
          · obtain ⟨Tz, kz⟩ := hn x hx
            exact ⟨_, rfl, x, 0, 999, Tz, rfl, kz.same (Same.new hD _), hQ⟩
          · refine ⟨D, ns.map fun z => wholeV z 0 999, rfl, SqL.of (by rw [upd_same, List.map_map]; rfl), ?_⟩
            have q' := q _ (Same.new hD (.lst (ns.map fun z => .bl (wholeV z 0 999))))
            rw [List.all_map]
            exact q'
      · refine ⟨_, rfl, iteT ?_⟩
        have d1 : decide (1 ≤ ns.length) = false := decide_eq_false fun z => c1 (decide_eq_true (by omega))
        rw [d1, Bool.false_and, Bool.false_and] at q
        exact q H (Same.refl H)
end S70
set_option Elab.async false
set_option linter.all false
set_option maxRecDepth 100000
set_option exponentiation.threshold 5000
namespace S70
open PySem L2 SC PyProof.Rows S40 Ly
theorem sc_is_rule : FnScope ["thing"] ["thing"] (defScope (top 23)) := ⟨rfl, rfl, rfl, by decide +kernel, rfl, by decide +kernel, by decide +kernel⟩
theorem v_is_rule : Vs ["thing"] (defScope (top 23)) := Vs.of (by decide +kernel)
theorem l_is_rule : Ls ["thing"] (defScope (top 23)) := Ls.of sc_is_rule.nd (by decide +kernel)
theorem g_is_rule : Gs ["isinstance", "tuple", "len", "str", "is_times_rule", "is_high_rule", "is_told_rule"] (defScope (top 23)) := Gs.of (by decide +kernel)
theorem ok_is_rule {P : Program} {w : World} {K : PySem.W.Frag} {mg : Str → Option Value} {base : Heap} {f : Addr} {fd : FuncData} {cl : CN → Addr} (F : Fun K "is_rule" "is_rule" (top 23) f fd) (T : Tx K mg cl) (O_is_times_rule : Own P w K mg base true 2 "is_times_rule" ["rule"] (spTimes)) (O_is_high_rule : Own P w K mg base true 2 "is_high_rule" ["rule"] (spHigh)) (O_is_told_rule : Own P w K mg base true 2 "is_told_rule" ["rule"] (spTold)) :
    FnOk P w K mg base (CX1 P w) true 3 f fd ["thing"] (spIsRule) := by
  have S := sc_is_rule
  have Vv := v_is_rule
  have Lo := l_is_rule
  have Gg := g_is_rule
  refine F.ok S (fun vs H Q E h => ?_) (fun cdv A outer s H vs Q E hx hcx hh hr D h => ?_)
  · obtain ⟨p, rfl, _⟩ := h; rfl
  obtain ⟨v, rfl, pl, q⟩ := h
  refine ⟨_, (pss_cons (ps_if (PW.pt (pw_or (pt_not (pt_val (cB (i := 0) Gg (call_isi) T.nisinstance bt_isinstance (pa_cons (vn Vv 0) (pa_cons (nTy (i := 1) Gg T.ntuple bt_tuple) pa_nil))))) (pw_or (pt_cmpR op_eq (cB (i := 2) Gg (call_len_seq) T.nlen bt_len (pa_cons (vn Vv 0) pa_nil)) pe_int (nomark _)) (pw_or1 (pt_not (pt_val (cB (i := 0) Gg (call_isi) T.nisinstance bt_isinstance (pa_cons (pe_ix ix_tup (vn Vv 0) pe_int (fun _ _ => rfl)) (pa_cons (nTy (i := 3) Gg T.nstr bt_str) pa_nil))))))))) (pss_one (ps_ret pe_bl)) pss_nil)
    (pss_cons (ps_if (pt_cmpR op_eq (pe_ix ix_tup (vn Vv 0) pe_int (fun _ _ => rfl)) pe_str (nomark _)) (pss_one (ps_ret (cOwn (i := 4) Gg O_is_times_rule (hr.mono (by decide)) passX (pa_cons (vn Vv 0) pa_nil)))) pss_nil)
    (pss_cons (ps_if (pt_cmpR op_eq (pe_ix ix_tup (vn Vv 0) pe_int (fun _ _ => rfl)) pe_str (nomark _)) (pss_one (ps_ret (cOwn (i := 5) Gg O_is_high_rule (hr.mono (by decide)) passX (pa_cons (vn Vv 0) pa_nil)))) pss_nil)
    (pss_one (ps_ret (pe_and (pe_cmpR op_eq (pe_ix ix_tup (vn Vv 0) pe_int (fun _ _ => rfl)) pe_str (nomark _)) (pe_one (cOwn (i := 6) Gg O_is_told_rule (hr.mono (by decide)) passX (pa_cons (vn Vv 0) pa_nil))))))))), ?_⟩
  obtain ⟨⟨T0, k0⟩, kI, few⟩ := pl
  refine ⟨_, rfl, _, _, _, _, rfl, k0.ty, kit_tuple T0, _, rfl, ?_⟩
  cases e0 : T0.isT with
  | false =>
    refine iteT (iteT ?_)
    have z : isRuleV H v = false := by simp [isRuleV, tupV_no k0 e0]
    rw [z] at q
    exact q H (Same.refl H)
  | true =>
    obtain ⟨p, xs, rfl, hp, hv⟩ := tupV_of k0 e0
    have fl := few xs hv
    refine iteF ⟨_, rfl, p, xs, rfl, .inr (SqT.of hp), rfl, _, rfl, ite2 (fun c => ?_) fun c => ?_⟩
    · refine iteT ?_
      have e : xs = [] := by
        have := V.int.inj (of_decide_eq_true c)
        exact List.eq_nil_of_length_eq_zero (by omega)
      have z : isRuleV H (.ref p) = false := by simp [isRuleV, hv, e]
      rw [z] at q
      exact q H (Same.refl H)
    · cases xs with
      | nil => exact absurd rfl c
      | cons x0 r =>
        obtain ⟨⟨T1, k1⟩, _⟩ := kI _ hv x0 (by simp)
        have a0 : atI (x0 :: r) 0 = some x0 := atI_nat (j := 0) rfl
        refine ⟨_, rfl, p, _, _, x0, rfl, rfl, SqT.of hp, a0, _, _, _, _, rfl, k1.ty, kit_str T1, _, rfl, ?_⟩
        have fin : isRuleV H (.ref p) = false → Q (.bl false) H := fun z => by
          have z2 := q H (Same.refl H)
          rw [z] at z2
          exact z2
        cases k1 with
        | str z =>
          refine iteF ⟨_, rfl, p, _, _, .str z, rfl, rfl, SqT.of hp, a0, rfl, _, rfl, ite2 (fun c1 => ?_) fun c1 => ?_⟩
          · have e1 : z = "times" := V.str.inj (of_decide_eq_true c1)
            have zz : isRuleV H (.ref p) = isTimesV (.str z :: r) := by simp only [isRuleV, hv]; rw [if_pos e1]
            rw [zz] at q
            exact ⟨_, rfl, p, _, rfl, hp, fun y hy => (kI _ hv y hy).1, q H (Same.refl H)⟩
          · have e1 : ¬ z = "times" := fun e => c1 (decide_eq_true (by rw [e]))
            refine ⟨_, rfl, p, _, _, .str z, rfl, rfl, SqT.of hp, a0, rfl, _, rfl, ite2 (fun c2 => ?_) fun c2 => ?_⟩
            · have e2 : z = "high" := V.str.inj (of_decide_eq_true c2)
              have zz : isRuleV H (.ref p) = isHighV (.str z :: r) := by simp only [isRuleV, hv]; rw [if_neg e1, if_pos e2]
              rw [zz] at q
              exact ⟨_, rfl, p, _, rfl, hp, fun y hy => (kI _ hv y hy).1, q H (Same.refl H)⟩
            · have e2 : ¬ z = "high" := fun e => c2 (decide_eq_true (by rw [e]))
              have zz : isRuleV H (.ref p) = (decide (z = "told") && isToldV H (.str z :: r)) := by simp only [isRuleV, hv]; rw [if_neg e1, if_neg e2]
              rw [zz] at q
              refine ⟨_, rfl, p, _, _, .str z, rfl, rfl, SqT.of hp, a0, rfl, _, rfl, ite2 (fun c3 => ?_) fun c3 => ?_⟩
              · have e3 : z = "told" := V.str.inj (of_decide_eq_true c3)
                rw [decide_eq_true e3, Bool.true_and] at q
                exact ⟨_, rfl, p, _, rfl, hp, kI _ hv, q⟩
              · rw [decide_eq_false (fun e => c3 (decide_eq_true (by rw [e]))), Bool.false_and] at q
                exact q H (Same.refl H)
        | non => exact iteT (fin (by simp [isRuleV, hv]))
        | bl b => exact iteT (fin (by simp [isRuleV, hv]))
        | int i => exact iteT (fin (by simp [isRuleV, hv]))
        | lst e => exact iteT (fin (by simp [isRuleV, hv]))
        | tup e => exact iteT (fin (by simp [isRuleV, hv]))
end S70
set_option Elab.async false
set_option linter.all false
set_option maxRecDepth 100000
set_option exponentiation.threshold 5000
namespace S70
open PySem L2 SC PyProof.Rows S40 Ly
theorem sc_check_rule : FnScope ["rule"] ["rule"] (defScope (top 24)) := ⟨rfl, rfl, rfl, by decide +kernel, rfl, by decide +kernel, by decide +kernel⟩
theorem v_check_rule : Vs ["rule"] (defScope (top 24)) := Vs.of (by decide +kernel)
theorem l_check_rule : Ls ["rule"] (defScope (top 24)) := Ls.of sc_check_rule.nd (by decide +kernel)
theorem g_check_rule : Gs ["is_rule", "BadRule"] (defScope (top 24)) := Gs.of (by decide +kernel)
theorem ok_check_rule {P : Program} {w : World} {K : PySem.W.Frag} {mg : Str → Option Value} {base : Heap} {f : Addr} {fd : FuncData} {cl : CN → Addr} (F : Fun K "check_rule" "check_rule" (top 24) f fd) (T : Tx K mg cl) (O_is_rule : Own P w K mg base true 3 "is_rule" ["thing"] (spIsRule)) :
    FnOk P w K mg base (CX1 P w) true 4 f fd ["rule"] (spCheckRule (cl .BadRule)) := by
  have S := sc_check_rule
  have Vv := v_check_rule
  have Lo := l_check_rule
  have Gg := g_check_rule
  refine F.ok S (fun vs H Q E h => ?_) (fun cdv A outer s H vs Q E hx hcx hh hr D h => ?_)
  · obtain ⟨p, rfl, _⟩ := h; rfl
  obtain ⟨v, rfl, pl, q⟩ := h
  refine ⟨_, (pss_one (ps_if (pt_not (pt_val (cOwn (i := 0) Gg O_is_rule (hr.mono (by decide)) passX (pa_cons (vn Vv 0) pa_nil)))) (pss_one (rse (i := 1) Gg T.mBadRule T.xBadRule (pa_cons pe_str pa_nil))) pss_nil)), ?_⟩
  refine ⟨_, rfl, v, rfl, pl, fun H' sm => ⟨_, rfl, ?_⟩⟩
  have q' := q H' sm
  cases e : isRuleV H v with
  | true =>
    rw [e, if_pos rfl] at q'
    exact iteF q'
  | false =>
    rw [e, if_neg Bool.false_ne_true] at q'
    exact iteT ⟨by decide, q'⟩
end S70
set_option Elab.async false
set_option linter.all false
set_option maxRecDepth 100000
set_option exponentiation.threshold 5000
namespace S70
open PySem L2 SC PyProof.Rows S40 Ly
theorem sc_check_key : FnScope ["key"] ["key"] (defScope (top 25)) := ⟨rfl, rfl, rfl, by decide +kernel, rfl, by decide +kernel, by decide +kernel⟩
theorem v_check_key : Vs ["key"] (defScope (top 25)) := Vs.of (by decide +kernel)
theorem l_check_key : Ls ["key"] (defScope (top 25)) := Ls.of sc_check_key.nd (by decide +kernel)
theorem g_check_key : Gs ["is_whole", "MOST_KEY", "BadKey"] (defScope (top 25)) := Gs.of (by decide +kernel)
theorem ok_check_key {P : Program} {w : World} {K : PySem.W.Frag} {mg : Str → Option Value} {base : Heap} {f : Addr} {fd : FuncData} {cl : CN → Addr} (F : Fun K "check_key" "check_key" (top 25) f fd) (T : Tx K mg cl) (O_is_whole : Own P w K mg base true 1 "is_whole" ["thing", "least", "most"] (spWhole)) :
    FnOk P w K mg base (CX1 P w) true 2 f fd ["key"] (spCheckKey (cl .BadKey)) := by
  have S := sc_check_key
  have Vv := v_check_key
  have Lo := l_check_key
  have Gg := g_check_key
  refine F.ok S (fun vs H Q E h => ?_) (fun cdv A outer s H vs Q E hx hcx hh hr D h => ?_)
  · obtain ⟨p, _, rfl, _⟩ := h; rfl
  obtain ⟨v, Tv, rfl, kv, q⟩ := h
  refine ⟨_, (pss_one (ps_if (pt_not (pt_val (cOwn (i := 0) Gg O_is_whole (hr.mono (by decide)) passX (pa_cons (vn Vv 0) (pa_cons pe_int (pa_cons (nCon (i := 1) Gg T.cMOST_KEY) pa_nil)))))) (pss_one (rse (i := 2) Gg T.mBadKey T.xBadKey (pa_cons pe_str pa_nil))) pss_nil)), ?_⟩
  refine ⟨_, rfl, v, 0, 999999, Tv, rfl, kv, _, rfl, ?_⟩
  cases e : wholeV v 0 999999 with
  | true =>
    rw [e, if_pos rfl] at q
    exact iteF q
  | false =>
    rw [e, if_neg Bool.false_ne_true] at q
    exact iteT ⟨by decide, q⟩
end S70
set_option Elab.async false
set_option linter.all false
set_option maxRecDepth 100000
set_option exponentiation.threshold 5000
namespace S70
open PySem L2 SC PyProof.Rows S40 Ly
theorem sc_check_keys : FnScope ["keys", "seen", "key"] ["keys"] (defScope (top 26)) := ⟨rfl, rfl, rfl, by decide +kernel, rfl, by decide +kernel, by decide +kernel⟩
theorem v_check_keys : Vs ["keys", "seen", "key"] (defScope (top 26)) := Vs.of (by decide +kernel)
theorem l_check_keys : Ls ["keys", "seen", "key"] (defScope (top 26)) := Ls.of sc_check_keys.nd (by decide +kernel)
theorem g_check_keys : Gs ["check_key", "BadKey"] (defScope (top 26)) := Gs.of (by decide +kernel)
theorem ok_check_keys {P : Program} {w : World} {K : PySem.W.Frag} {mg : Str → Option Value} {base : Heap} {f : Addr} {fd : FuncData} {cl : CN → Addr} (F : Fun K "check_keys" "check_keys" (top 26) f fd) (T : Tx K mg cl) (O_check_key : Own P w K mg base true 2 "check_key" ["key"] (spCheckKey (cl .BadKey))) :
    FnOk P w K mg base (CX1 P w) true 3 f fd ["keys"] (spCheckKeys (cl .BadKey)) := by
  have S := sc_check_keys
  have Vv := v_check_keys
  have Lo := l_check_keys
  have Gg := g_check_keys
  refine F.ok S (fun vs H Q E h => ?_) (fun cdv A outer s H vs Q E hx hcx hh hr D h => ?_)
  · obtain ⟨p, xs, rfl, _⟩ := h; rfl
  obtain ⟨p, xs, rfl, hp0, hkn, hlen, q1, q2⟩ := h
  have hp := passesXE (E := E) D
  refine ⟨_, (pss_cons (set_v (i := 1) Lo pe_dnewK)
    (pss_one (ps_for hp (pi_list (vn Vv 0)) (tgt_v (i := 2) Lo)
    (pss_cons (ps_expr (cOwn (i := 0) Gg O_check_key (hr.mono (by decide)) passX (pa_cons (vn Vv 2) pa_nil)))
    (pss_cons (ps_if (pt_cmp (pc_din (hu_of hr) (vn Vv 2) (vn Vv 1))) (pss_one (rse (i := 1) Gg T.mBadKey T.xBadKey (pa_cons pe_str pa_nil))) pss_nil)
    (pss_one (ps_dput (hu_of hr) (vn Vv 1) (vn Vv 2) pe_bl rfl))))))), ?_⟩
  have hz : 100000 < sizeLine := by decide
  intro d hd
  refine ⟨_, rfl, p, rfl, ⟨_, SqL.of (Same.new hd _ _ _ hp0)⟩, for_list (xs := xs) (fun i σ H2 => ∃ x ks, σ = [some (.ref p), some (.ref d), x] ∧ Same H H2 ∧ H2 d = some (.dK (dki ks)) ∧ goodKs (xs.take i) ks) ⟨none, [], rfl, Same.new hd _, upd_same, rfl, List.nodup_nil, (fun k h => nomatch h)⟩ (fun i σ H2 _ ⟨_, _, _, sm, _⟩ => SqL.of (sm _ _ hp0)) ?_ ?_⟩
  · rintro i x σ H2 hxi ⟨x0, ks, rfl, sm, hd2, e1, e2, e3⟩
    have hi : i < xs.length := (List.getElem?_eq_some_iff.mp hxi).1
    have hxm := List.mem_of_getElem? hxi
    obtain ⟨Tx, kx, n1, n2⟩ := hkn x hxm
    have et : xs.take (i + 1) = xs.take i ++ [x] := by
      obtain ⟨_, e⟩ := List.getElem?_eq_some_iff.mp hxi
      rw [List.take_succ_eq_append_getElem hi, e]
    have hkl : ks.length = i := by
      have := congrArg List.length e1
      rw [List.length_take, List.length_map] at this; omega
    refine ⟨_, rfl, x, Tx, rfl, kx.same sm, ite2 (fun c => ?_) fun c => ?_⟩
    · obtain ⟨k, rfl, k1, k2⟩ := ofWhole c
      refine ⟨_, rfl, _, rfl, d, _, rfl, DGet.k (k := Sum.inl k) hd2, _, rfl, ?_⟩
      rw [dki_val]
      refine ite2 (fun c2 => ?_) fun c2 => ?_
      · have hin := of_decide_eq_true c2
        refine ⟨by decide, q2 (fun ⟨ks', g1, g2, g3⟩ => ?_) H2 sm⟩
        have hk' : ks'[i]? = some k := by
          rw [g1, List.getElem?_map] at hxi
          obtain ⟨k'', hk'', e⟩ := Option.map_eq_some_iff.mp hxi
          rw [hk'', V.int.inj e]
        have ht : ks'.take i = ks := by
          rw [g1, ← List.map_take] at e1
          exact (List.map_inj_right (fun _ _ z => V.int.inj z)).mp e1
        rw [← ht] at hin
        obtain ⟨j, hj, ej⟩ := List.getElem_of_mem hin
        rw [List.getElem_take] at ej
        rw [List.length_take] at hj
        have hi' := (List.getElem?_eq_some_iff.mp hk').1
        have := (List.getElem_inj (h₀ := by omega) (h₁ := hi') g2).mp (ej.trans (List.getElem?_eq_some_iff.mp hk').2.symm)
        omega
      · have hnin : k ∉ ks := fun w => c2 (decide_eq_true w)
        refine ⟨_, rfl, _, rfl, d, _, rfl, DPut.k (k := Sum.inl k) hd2 (by unfold dki; rw [List.length_map]; omega), ?_⟩
        refine ⟨_, ks ++ [k], rfl, sm.upd hd hd2 _, by rw [upd_same, dki_put hnin], ?_, ?_, fun k' hk' => ?_⟩
        · rw [et, e1, List.map_append]; rfl
        · rw [List.nodup_append]
          exact ⟨e2, by simp, fun a ha b hb => by rw [List.mem_singleton.mp hb]; exact fun w => hnin (w ▸ ha)⟩
        · rcases List.mem_append.mp hk' with w | w
          · exact e3 k' w
          · rw [List.mem_singleton.mp w]; exact ⟨k1, k2⟩
    · refine q2 (fun ⟨ks', g1, g2, g3⟩ => c ?_) H2 sm
      rw [g1] at hxm
      obtain ⟨k, hk, rfl⟩ := List.mem_map.mp hxm
      exact wholeV_int (g3 k hk).1 (g3 k hk).2
  · rintro σ H2 ⟨x0, ks, rfl, sm, hd2, g⟩
    rw [List.take_length] at g
    exact q1 ks g H2 sm
end S70
set_option Elab.async false
set_option linter.all false
set_option maxRecDepth 100000
set_option exponentiation.threshold 5000
namespace S70
open PySem L2 SC PyProof.Rows S40 Ly
theorem sc_check_size : FnScope ["size"] ["size"] (defScope (top 27)) := ⟨rfl, rfl, rfl, by decide +kernel, rfl, by decide +kernel, by decide +kernel⟩
theorem v_check_size : Vs ["size"] (defScope (top 27)) := Vs.of (by decide +kernel)
theorem l_check_size : Ls ["size"] (defScope (top 27)) := Ls.of sc_check_size.nd (by decide +kernel)
theorem g_check_size : Gs ["is_whole", "LEAST_SIZE", "MOST_SIZE", "BadSize"] (defScope (top 27)) := Gs.of (by decide +kernel)
theorem ok_check_size {P : Program} {w : World} {K : PySem.W.Frag} {mg : Str → Option Value} {base : Heap} {f : Addr} {fd : FuncData} {cl : CN → Addr} (F : Fun K "check_size" "check_size" (top 27) f fd) (T : Tx K mg cl) (O_is_whole : Own P w K mg base true 1 "is_whole" ["thing", "least", "most"] (spWhole)) :
    FnOk P w K mg base (CX1 P w) true 2 f fd ["size"] (spCheckSize (cl .BadSize)) := by
  have S := sc_check_size
  have Vv := v_check_size
  have Lo := l_check_size
  have Gg := g_check_size
  refine F.ok S (fun vs H Q E h => ?_) (fun cdv A outer s H vs Q E hx hcx hh hr D h => ?_)
  · obtain ⟨p, _, rfl, _⟩ := h; rfl
  obtain ⟨v, Tv, rfl, kv, q⟩ := h
  refine ⟨_, (pss_one (ps_if (pt_not (pt_val (cOwn (i := 0) Gg O_is_whole (hr.mono (by decide)) passX (pa_cons (vn Vv 0) (pa_cons (nCon (i := 1) Gg T.cLEAST_SIZE) (pa_cons (nCon (i := 2) Gg T.cMOST_SIZE) pa_nil)))))) (pss_one (rse (i := 3) Gg T.mBadSize T.xBadSize (pa_cons pe_str pa_nil))) pss_nil)), ?_⟩
  refine ⟨_, rfl, v, 2, 64, Tv, rfl, kv, _, rfl, ?_⟩
  cases e : wholeV v 2 64 with
  | true =>
    rw [e, if_pos rfl] at q
    exact iteF q
  | false =>
    rw [e, if_neg Bool.false_ne_true] at q
    exact iteT ⟨by decide, q⟩
end S70
set_option Elab.async false
set_option linter.all false
set_option maxRecDepth 100000
set_option exponentiation.threshold 5000
namespace S70
open PySem L2 SC PyProof.Rows S40 Ly
theorem sc_check_count : FnScope ["count", "least", "most"] ["count", "least", "most"] (defScope (top 28)) := ⟨rfl, rfl, rfl, by decide +kernel, rfl, by decide +kernel, by decide +kernel⟩
theorem v_check_count : Vs ["count", "least", "most"] (defScope (top 28)) := Vs.of (by decide +kernel)
theorem l_check_count : Ls ["count", "least", "most"] (defScope (top 28)) := Ls.of sc_check_count.nd (by decide +kernel)
theorem g_check_count : Gs ["is_whole", "BadSize"] (defScope (top 28)) := Gs.of (by decide +kernel)
theorem ok_check_count {P : Program} {w : World} {K : PySem.W.Frag} {mg : Str → Option Value} {base : Heap} {f : Addr} {fd : FuncData} {cl : CN → Addr} (F : Fun K "check_count" "check_count" (top 28) f fd) (T : Tx K mg cl) (O_is_whole : Own P w K mg base true 1 "is_whole" ["thing", "least", "most"] (spWhole)) :
    FnOk P w K mg base (CX1 P w) true 2 f fd ["count", "least", "most"] (spCheckCount (cl .BadSize)) := by
  have S := sc_check_count
  have Vv := v_check_count
  have Lo := l_check_count
  have Gg := g_check_count
  refine F.ok S (fun vs H Q E h => ?_) (fun cdv A outer s H vs Q E hx hcx hh hr D h => ?_)
  · obtain ⟨v, l, m, T, rfl, _⟩ := h; rfl
  obtain ⟨v, l, m, Tv, rfl, kv, q⟩ := h
  refine ⟨_, (pss_one (ps_if (pt_not (pt_val (cOwn (i := 0) Gg O_is_whole (hr.mono (by decide)) passX (pa_cons (vn Vv 0) (pa_cons (vn Vv 1) (pa_cons (vn Vv 2) pa_nil)))))) (pss_one (rse (i := 1) Gg T.mBadSize T.xBadSize (pa_cons pe_str pa_nil))) pss_nil)), ?_⟩
  refine ⟨_, rfl, _, rfl, _, rfl, v, l, m, Tv, rfl, kv, _, rfl, ?_⟩
  cases e : wholeV v l m with
  | true =>
    rw [e, if_pos rfl] at q
    exact iteF q
  | false =>
    rw [e, if_neg Bool.false_ne_true] at q
    exact iteT ⟨by decide, q⟩
end S70
set_option Elab.async false
set_option linter.all false
set_option maxRecDepth 100000
set_option exponentiation.threshold 5000
namespace S70
open PySem L2 SC PyProof.Rows S40 Ly
theorem sc_reckon_home : FnScope ["rule", "key", "size", "whole", "rest", "numbers"] ["rule", "key", "size"] (defScope (top 29)) := ⟨rfl, rfl, rfl, by decide +kernel, rfl, by decide +kernel, by decide +kernel⟩
theorem v_reckon_home : Vs ["rule", "key", "size", "whole", "rest", "numbers"] (defScope (top 29)) := Vs.of (by decide +kernel)
theorem l_reckon_home : Ls ["rule", "key", "size", "whole", "rest", "numbers"] (defScope (top 29)) := Ls.of sc_reckon_home.nd (by decide +kernel)
theorem g_reckon_home : Gs ["power", "len"] (defScope (top 29)) := Gs.of (by decide +kernel)
theorem ok_reckon_home {P : Program} {w : World} {K : PySem.W.Frag} {mg : Str → Option Value} {base : Heap} {f : Addr} {fd : FuncData} {cl : CN → Addr} (F : Fun K "reckon_home" "reckon_home" (top 29) f fd) (T : Tx K mg cl) (O_power : Own P w K mg base true 1 "power" ["base", "exponent"] (spPow)) :
    FnOk P w K mg base (CX1 P w) true 2 f fd ["rule", "key", "size"] (spReckon) := by
  have S := sc_reckon_home
  have Vv := v_reckon_home
  have Lo := l_reckon_home
  have Gg := g_reckon_home
  refine F.ok S (fun vs H Q E h => ?_) (fun cdv A outer s H vs Q E hx hcx hh hr D h => ?_)
  · obtain ⟨v, r, k, z, rfl, _⟩ := h; rfl
  obtain ⟨v, r, k, z, rfl, ra, rk, ⟨k0, k1⟩, ⟨z0, z1⟩, q⟩ := h
  refine ⟨_, (pss_cons (ps_if (pt_cmpR op_eq (pe_ix ix_tup (vn Vv 0) pe_int (fun _ _ => rfl)) pe_str (nomark _)) (pss_one (ps_ret (pe_op op_mod (pe_op op_add (pe_op op_mulA (pe_ix ix_tup (vn Vv 0) pe_int (fun _ _ => rfl)) (vn Vv 1)) (pe_ix ix_tup (vn Vv 0) pe_int (fun _ _ => rfl))) (vn Vv 2)))) pss_nil)
    (pss_cons (ps_if (pt_cmpR op_eq (pe_ix ix_tup (vn Vv 0) pe_int (fun _ _ => rfl)) pe_str (nomark _)) (pss_cons (set_v (i := 3) Lo (cOwn (i := 0) Gg O_power (hr.mono (by decide)) passX (pa_cons pe_int (pa_cons (pe_ix ix_tup (vn Vv 0) pe_int (fun _ _ => rfl)) pa_nil))))
    (pss_cons (set_v (i := 4) Lo (pe_op op_mod (pe_op op_mulA (pe_ix ix_tup (vn Vv 0) pe_int (fun _ _ => rfl)) (vn Vv 1)) (vn Vv 3)))
    (pss_one (ps_ret (pe_op op_fdivA (pe_op op_mulA (vn Vv 4) (vn Vv 2)) (vn Vv 3)))))) pss_nil)
    (pss_cons (set_v (i := 5) Lo (pe_ix ix_tup (vn Vv 0) pe_int (fun _ _ => rfl)))
    (pss_one (ps_ret (pe_op op_mod (pe_ix ix_tup (vn Vv 5) (pe_op op_mod (vn Vv 1) (cB (i := 1) Gg (call_len_seq) T.nlen bt_len (pa_cons (vn Vv 5) pa_nil))) (fun _ _ => rfl)) (vn Vv 2))))))), ?_⟩
  cases r with
  | times a b =>
    obtain ⟨p, rfl, hp⟩ := ra
    refine ⟨_, rfl, p, _, _, .str "times", rfl, rfl, SqT.of hp, rfl, rfl, _, rfl, iteY (sY _) ?_⟩
    refine ⟨_, rfl, p, _, _, .int a, rfl, rfl, SqT.of hp, rfl, _, rfl, _, _, rfl, rfl, mulS k0 (by omega), _, rfl, p, _, _, .int b, rfl, rfl, SqT.of hp, rfl, _, _, rfl, rfl, _, rfl, _, _, rfl, rfl, (by omega), q⟩
  | high a b =>
    obtain ⟨p, rfl, hp⟩ := ra
    obtain ⟨⟨a0, a1⟩, b0, b1⟩ := rk
    obtain ⟨w0, w1⟩ := pow30 (n := b.toNat) (by omega)
    refine ⟨_, rfl, p, _, _, .str "high", rfl, rfl, SqT.of hp, rfl, rfl, _, rfl, iteN (by rw [sT _ _ (by decide +kernel)]; exact Bool.false_ne_true) ?_⟩
    refine ⟨_, rfl, p, _, _, .str "high", rfl, rfl, SqT.of hp, rfl, rfl, _, rfl, iteY (sY _) ?_⟩
    refine ⟨_, rfl, p, _, _, .int b, rfl, rfl, SqT.of hp, rfl, 2, b, rfl, ⟨by decide, by decide⟩, ⟨by omega, by omega⟩, ?_⟩
    refine ⟨_, rfl, p, _, _, .int a, rfl, rfl, SqT.of hp, rfl, _, rfl, _, _, rfl, rfl, mulS k0 (by omega), _, rfl, _, _, rfl, rfl, w0, ?_⟩
    refine ⟨_, rfl, _, rfl, _, _, rfl, rfl, mulS (by omega) (by omega), _, rfl, _, _, rfl, rfl, ⟨w0, Int.lt_of_le_of_lt w1 (by decide)⟩, q⟩
  | told ns =>
    obtain ⟨p, p2, rfl, hp, hq⟩ := ra
    obtain ⟨⟨l0, l1⟩, b1⟩ := rk
    have hl : (0 : Int) < ((ns.map V.int).length : Nat) := by rw [List.length_map]; omega
    refine ⟨_, rfl, p, _, _, .str "told", rfl, rfl, SqT.of hp, rfl, rfl, _, rfl, iteN (by rw [sT _ _ (by decide +kernel)]; exact Bool.false_ne_true) ?_⟩
    refine ⟨_, rfl, p, _, _, .str "told", rfl, rfl, SqT.of hp, rfl, rfl, _, rfl, iteN (by rw [sT _ _ (by decide +kernel)]; exact Bool.false_ne_true) ?_⟩
    refine ⟨_, rfl, p, _, _, .ref p2, rfl, rfl, SqT.of hp, rfl, ?_⟩
    refine ⟨_, rfl, _, rfl, _, rfl, p2, _, rfl, .inr (SqT.of hq), _, _, rfl, rfl, hl, p2, _, _, _, rfl, rfl, SqT.of hq, atI_getD (Int.emod_nonneg _ (by omega)) (by have := Int.emod_lt_of_pos k hl; rw [List.length_map] at this ⊢; exact this), _, rfl, _, _, rfl, rfl, (by omega), ?_⟩
    have q' : Q (.int (ns.getD (k % ns.length).toNat 0 % z)) H := q
    rw [List.length_map]
    exact q'
end S70
set_option Elab.async false
set_option linter.all false
set_option maxRecDepth 100000
set_option exponentiation.threshold 5000
namespace S70
open PySem L2 SC PyProof.Rows S40 Ly
theorem sc_chains : FnScope ["rule", "size", "keys", "told", "key"] ["rule", "size", "keys"] (defScope (top 31)) := ⟨rfl, rfl, rfl, by decide +kernel, rfl, by decide +kernel, by decide +kernel⟩
theorem v_chains : Vs ["rule", "size", "keys", "told", "key"] (defScope (top 31)) := Vs.of (by decide +kernel)
theorem l_chains : Ls ["rule", "size", "keys", "told", "key"] (defScope (top 31)) := Ls.of sc_chains.nd (by decide +kernel)
theorem g_chains : Gs ["check_rule", "check_size", "check_keys", "range", "sorted", "reckon_home"] (defScope (top 31)) := Gs.of (by decide +kernel)
theorem ok_chains {P : Program} {w : World} {K : PySem.W.Frag} {mg : Str → Option Value} {base : Heap} {f : Addr} {fd : FuncData} {cl : CN → Addr} (F : Fun K "chains" "chains" (top 31) f fd) (T : Tx K mg cl) (O_check_rule : Own P w K mg base true 4 "check_rule" ["rule"] (spCheckRule (cl .BadRule))) (O_check_keys : Own P w K mg base true 3 "check_keys" ["keys"] (spCheckKeys (cl .BadKey))) (O_check_size : Own P w K mg base true 2 "check_size" ["size"] (spCheckSize (cl .BadSize))) (O_reckon_home : Own P w K mg base true 2 "reckon_home" ["rule", "key", "size"] (spReckon)) :
    FnOk P w K mg base (CX1 P w) true 5 f fd ["rule", "size", "keys"] (spChainsR (cl .BadRule) (cl .BadSize) (cl .BadKey)) := by
  have S := sc_chains
  have Vv := v_chains
  have Lo := l_chains
  have Gg := g_chains
  refine F.ok S (fun vs H Q E h => ?_) (fun cdv A outer s H vs Q E hx hcx hh hr D h => ?_)
  · obtain ⟨v, z, Tz, p, xs, rfl, _⟩ := h; rfl
  obtain ⟨v, z, Tz, p, xs, rfl, pl, kz, hp0, hkn, hlen0, q⟩ := h
  have hp := passesXE (E := E) D
  refine ⟨_, (pss_cons (ps_expr (cOwn (i := 0) Gg O_check_rule (hr.mono (by decide)) passX (pa_cons (vn Vv 0) pa_nil)))
    (pss_cons (ps_expr (cOwn (i := 1) Gg O_check_size (hr.mono (by decide)) passX (pa_cons (vn Vv 1) pa_nil)))
    (pss_cons (ps_expr (cOwn (i := 2) Gg O_check_keys (hr.mono (by decide)) passX (pa_cons (vn Vv 2) pa_nil)))
    (pss_cons (setC (i := 3) Lo (Nc := ["place"]) (caps := [none]) (N := ["rule", "size", "keys", "told", "key"]) (sc := defScope (top 31)) (Lc := []) ⟨rfl, by decide +kernel, by decide +kernel, by decide +kernel, rfl, by decide +kernel, by decide +kernel⟩ (iR1 (i := 3) Gg T.nrange (pa_cons (vn Vv 1) pa_nil)) (fun _ _ _ _ _ _ Vv Gg => pf_nil) (fun _ _ _ _ _ _ Vv Gg => (pe_lst pa_nil)))
    (pss_cons (ps_for hp (pi_list (cB (i := 4) Gg (call_sortedR) T.nsorted bt_sorted (pa_cons (vn Vv 2) pa_nil))) (tgt_v (i := 4) Lo)
    (pss_one (ps_expr (pe_bm PySem.F.plainAttrs_list PySem.F.slot_list_append PySem.F.type_list_append mt_append (pe_ix ix_list (vn Vv 3) (cOwn (i := 5) Gg O_reckon_home (hr.mono (by decide)) passX (pa_cons (vn Vv 0) (pa_cons (vn Vv 4) (pa_cons (vn Vv 1) pa_nil)))) (fun _ _ => rfl)) (pa_cons (vn Vv 4) pa_nil)))))
    (pss_one (ps_ret (vn Vv 3)))))))), ?_⟩
  have hlen : xs.length ≤ 64 := by rcases hlen0 with h | ⟨h, _⟩ <;> omega
  have hz : 100000 < sizeLine := by decide
  refine ⟨_, rfl, v, rfl, pl, fun H1 s1 => ite2 (fun c => ?_) fun c => (q H1 s1).1 (Bool.eq_false_iff.mpr c)⟩
  obtain ⟨r, ra, rk⟩ := ofRule c
  refine ⟨_, rfl, z, Tz, rfl, kz.same s1, ite2 (fun c2 => ?_) fun c2 => (q H1 s1).2.1 c (Bool.eq_false_iff.mpr c2)⟩
  obtain ⟨zi, rfl, z1, z2⟩ := ofWhole c2
  obtain ⟨n, rfl⟩ : ∃ n : Nat, zi = n := ⟨zi.toNat, by omega⟩
  refine ⟨_, rfl, p, xs, rfl, s1 _ _ hp0, fun x hx => ?_, by omega, fun ks g H2 s2 => ?_, fun g H2 s2 => (q H2 (s1.trans s2)).2.2.1 c c2 g⟩
  · obtain ⟨Tx, kx, a, b⟩ := hkn x hx
    exact ⟨Tx, kx.same s1, a, b⟩
  have s12 := s1.trans s2
  obtain ⟨g1, g2, g3⟩ := id g
  have hp2 := s12 _ _ hp0
  have hxl : xs.length = ks.length := by rw [g1, List.length_map]
  have ra2 := ra.same s12
  have hh := hm_lt rk (show 0 < n by omega)
  refine ⟨_, rfl, n, rfl, by omega, by omega, fun D hD => compG_of (comp_rangeI (n := n) (fun ys H' => ∃ rs : List Addr, ys = rs.map V.ref ∧ rs.Nodup ∧ ∀ a ∈ rs, H2 a = none ∧ a ≠ D ∧ H' a = some (.lst [])) hD (by omega) ⟨[], rfl, List.nodup_nil, (fun a h => nomatch h)⟩ ?_ ?_ ?_)⟩
  · rintro ys H' zs o hz' ⟨rs, rfl, nd, h⟩
    exact ⟨rs, rfl, nd, fun a ha => ⟨(h a ha).1, (h a ha).2.1, by rw [upd_ne (h a ha).2.1]; exact (h a ha).2.2⟩⟩
  · rintro i ys H3 Q' hi s3 h3 hl ⟨rs, rfl, nd, h⟩ k
    refine ⟨(show 0 ≤ sizeLine by decide), fun a ha => k _ _ (Same.new ha _) ⟨rs ++ [a], by rw [List.map_append]; rfl, ?_, fun b hb => ?_⟩⟩
    · rw [List.nodup_append]
      refine ⟨nd, by simp, fun b hb c hc => ?_⟩
      rw [List.mem_singleton.mp hc]
      exact fun w => by rw [w] at hb; rw [(h _ hb).2.2] at ha; cases ha
    · rcases List.mem_append.mp hb with hb | hb
      · have hne : b ≠ a := fun w => by rw [w] at hb; rw [(h _ hb).2.2] at ha; cases ha
        exact ⟨(h b hb).1, (h b hb).2.1, by rw [upd_ne hne]; exact (h b hb).2.2⟩
      · rw [List.mem_singleton.mp hb]
        refine ⟨s3.free ha, fun w => ?_, upd_same⟩
        rw [w, h3] at ha; cases ha
  rintro H3 ys s3 hD3 hyl ⟨rs, rfl, nd, hrs⟩
  rw [List.length_map] at hyl
  have hDn := s12.free hD
  have s13 := s12.trans s3
  have hp3 := s13 _ _ hp0
  have hlenR : ks.length < 64 ∨ (ks.length = 64 ∧ ks.Pairwise (· ≤ ·)) := by
    rcases hlen0 with h | ⟨h, ks2, e, hr⟩
    · exact .inl (by omega)
    · refine .inr ⟨by omega, ?_⟩
      have e2 : ks = ks2 := List.map_inj_right (f := V.int) (fun _ _ z => V.int.inj z) |>.mp (g1.symm.trans e)
      rw [e2]; exact hr
  refine ⟨_, rfl, p, ks, rfl, SqL.of (by rw [← g1]; exact hp3), hlenR, fun S ks' hS pm pw => ?_⟩
  have sS := s13.trans (Same.new hS (.lst (ks'.map V.int)))
  have hgb : ∀ k ∈ ks', 0 ≤ k ∧ k ≤ 999999 := fun k hk => g3 k (pm.mem_iff.mp hk)
  have hkl : ks'.length = ks.length := pm.length_eq
  have nS : ∀ b o, H3 b = some o → b ≠ S := fun b o hb w => by rw [w, hS] at hb; cases hb
  refine ⟨S, rfl, ⟨_, SqL.of upd_same⟩, for_list (xs := ks'.map V.int) (fun i σ H' => ∃ x4, σ = [some v, some (.int n), some (.ref p), some (.ref D), x4] ∧ Same H H' ∧ H' S = some (.lst (ks'.map V.int)) ∧ H' D = some (.lst (rs.map V.ref)) ∧ ∀ j a, rs[j]? = some a → H' a = some (.lst ((chn r n (ks'.take i) j).map V.int))) ⟨none, rfl, sS, upd_same, by rw [upd_ne (nS _ _ hD3)]; exact hD3, fun j a ha => ?_⟩ (fun i σ H' _ ⟨_, _, _, h, _⟩ => SqL.of h) ?_ ?_⟩
  · have := hrs a (List.mem_of_getElem? ha)
    rw [upd_ne (nS _ _ this.2.2)]
    exact this.2.2
  · rintro i y σ H' hy ⟨x4, rfl, sm, hS', hD', hR⟩
    obtain ⟨k, hk, rfl⟩ := ints_at hy
    have hkb := hgb k (List.mem_of_getElem? hk)
    have hi : i < ks'.length := (List.getElem?_eq_some_iff.mp hk).1
    have et : ks'.take (i + 1) = ks'.take i ++ [k] := by
      obtain ⟨_, e⟩ := List.getElem?_eq_some_iff.mp hk
      rw [List.take_succ_eq_append_getElem hi, e]
    have hx := hh k
    have hin : hm r n k < rs.length := by omega
    have ea : rs[hm r n k]? = some rs[hm r n k] := List.getElem?_eq_getElem hin
    have hA := hR _ _ ea
    have hmem := List.getElem_mem hin
    generalize rs[hm r n k] = a at ea hA hmem
    obtain ⟨f1, f2, f3⟩ := hrs a hmem
    have hnS : S ≠ a := (nS _ _ f3).symm
    refine ⟨_, rfl, _, rfl, _, rfl, _, rfl, v, r, k, n, rfl, ra.same sm, rk, hkb, ⟨by omega, by omega⟩, D, _, _, .ref a, rfl, rfl, SqL.of hD', ?_, .inl ⟨rfl, _, SqL.of hA⟩, _, rfl, a, _, _, rfl, rfl, hA, ?_, ?_⟩
    · rw [hm_eq rk (by omega)]
      exact atI_nat (by rw [List.getElem?_map, ea]; rfl)
    · have := List.length_filter_le (fun k' => decide (hm r n k' = hm r n k)) (ks'.take i)
      rw [List.length_take] at this
      unfold chn
      rw [List.length_map]
      omega
    refine ⟨_, rfl, sm.upd (s12.free f1) hA _, by rw [upd_ne hnS]; exact hS', by rw [upd_ne f2.symm]; exact hD', fun j b hb => ?_⟩
    rw [et]
    unfold chn
    rw [List.filter_append, List.map_append]
    by_cases cj : j = hm r n k
    · subst cj
      rw [ea] at hb; cases hb
      rw [upd_same]
      have e2 : List.filter (fun k' => decide (hm r n k' = hm r n k)) [k] = [k] := by simp
      rw [e2]
      rfl
    · have hne : b ≠ a := fun w => by
        have h1 := (List.getElem?_eq_some_iff.mp hb)
        have h2 := (List.getElem?_eq_some_iff.mp ea)
        obtain ⟨i1, e1⟩ := h1
        obtain ⟨i2, e2⟩ := h2
        exact cj ((List.getElem_inj nd).mp (by rw [e1, e2, w]))
      have e2 : List.filter (fun k' => decide (hm r n k' = j)) [k] = [] := by simp [Ne.symm cj]
      rw [upd_ne hne, e2, List.map_nil, List.append_nil]
      exact hR j b hb
  · rintro σ H' ⟨x4, rfl, sm, hS', hD', hR⟩
    rw [List.length_map, List.take_length] at hR
    exact ⟨_, rfl, (q H' sm).2.2.2 r n ks ra rk rfl (by omega) (by omega) g D ks' rs pm pw ⟨hD', hyl, nd, hR⟩ fun a ha => s12.free (hrs a ha).1⟩
end S70
set_option Elab.async false
set_option linter.all false
set_option maxRecDepth 100000
set_option exponentiation.threshold 5000
namespace S70
open PySem L2 SC PyProof.Rows S40 Ly
theorem sc_dealt_further : FnScope ["dealt", "room", "behind", "many", "left"] ["dealt", "room", "behind", "many"] (defScope (top 35)) := ⟨rfl, rfl, rfl, by decide +kernel, rfl, by decide +kernel, by decide +kernel⟩
theorem v_dealt_further : Vs ["dealt", "room", "behind", "many", "left"] (defScope (top 35)) := Vs.of (by decide +kernel)
theorem l_dealt_further : Ls ["dealt", "room", "behind", "many", "left"] (defScope (top 35)) := Ls.of sc_dealt_further.nd (by decide +kernel)
theorem g_dealt_further : Gs ["sum", "range", "max", "min"] (defScope (top 35)) := Gs.of (by decide +kernel)
theorem ok_dealt_further {P : Program} {w : World} {K : PySem.W.Frag} {mg : Str → Option Value} {base : Heap} {f : Addr} {fd : FuncData} {cl : CN → Addr} (F : Fun K "dealt_further" "dealt_further" (top 35) f fd) (T : Tx K mg cl) :
    FnOk P w K mg base (CX1 P w) true 1 f fd ["dealt", "room", "behind", "many"] (spFurther) := by
  have S := sc_dealt_further
  have Vv := v_dealt_further
  have Lo := l_dealt_further
  have Gg := g_dealt_further
  refine F.ok S (fun vs H Q E h => ?_) (fun cdv A outer s H vs Q E hx hcx hh hr D h => ?_)
  · obtain ⟨p, x, room, behind, many, rfl, _⟩ := h; rfl
  obtain ⟨p, x, room, behind, many, rfl, hp0, xl, xs, r1, b1, m1, q⟩ := h
  refine ⟨_, (pss_cons (set_v (i := 4) Lo (pe_op op_sub (vn Vv 3) (cB (i := 0) Gg (call_sum) T.nsum bt_sum (pa_cons (vn Vv 0) pa_nil))))
    (pss_one (ps_ret (cmp (Nc := ["given", "dealt"]) (caps := [none, some 0]) (j := 0) (N := ["dealt", "room", "behind", "many", "left"]) (sc := defScope (top 35)) (Lc := []) ⟨rfl, by decide +kernel, by decide +kernel, by decide +kernel, rfl, by decide +kernel, by decide +kernel, rfl, rfl, by decide +kernel⟩ (iR2 (i := 1) Gg T.nrange (pa_cons (cB (i := 2) Gg (call_max2 rfl) T.nmax bt_max (pa_cons pe_int (pa_cons (pe_op op_sub (vn Vv 4) (vn Vv 2)) pa_nil))) (pa_cons (pe_op op_add (cB (i := 3) Gg (call_min2 rfl) T.nmin bt_min (pa_cons (vn Vv 1) (pa_cons (vn Vv 4) pa_nil))) pe_int) pa_nil))) (fun _ _ _ _ _ _ Vv Gg => pf_nil) (fun _ _ _ _ _ _ Vv Gg => (pe_op op_cat (vn Vv 1) (pe_lst (pa_cons (vn Vv 0) pa_nil)))))))), ?_⟩
  have hz : 100000 < sizeLine := by decide
  refine seq_cut (fun σ' H' => σ' = [some (.ref p), some (.int room), some (.int behind), some (.int many), some (.int (many - x.sum : Nat))] ∧ H' = H) (fun U hU => ⟨_, rfl, _, rfl, p, _, rfl, SqL.of (by rw [hp0, nats_ints]), _, _, rfl, rfl, hU _ _ ⟨by rw [sum_nats, Int.ofNat_sub xs]; rfl, rfl⟩⟩) ?_
  rintro σ' H' ⟨rfl, rfl⟩
  have e1 : (if ((many - x.sum : Nat) : Int) - (behind : Int) > 0 then ((many - x.sum : Nat) : Int) - (behind : Int) else 0) = ((many - x.sum - behind : Nat) : Int) := by split <;> omega
  have e2 : (if ((many - x.sum : Nat) : Int) < (room : Int) then ((many - x.sum : Nat) : Int) else (room : Int)) + 1 = ((min room (many - x.sum) + 1 : Nat) : Int) := by split <;> omega
  refine ⟨_, rfl, _, rfl, _, _, rfl, rfl, 0, _, rfl, _, rfl, _, rfl, (room : Int), _, rfl, _, _, rfl, rfl, ((many - x.sum - behind : Nat) : Int), ((min room (many - x.sum) + 1 : Nat) : Int), by rw [← e1, ← e2], ⟨by omega, by omega, by omega, by omega⟩, fun D hD => ?_⟩
  rw [show (((min room (many - x.sum) + 1 : Nat) : Int) - ((many - x.sum - behind : Nat) : Int)).toNat = min room (many - x.sum) + 1 - (many - x.sum - behind) by omega]
  refine comp_rangeI (n := min room (many - x.sum) + 1 - (many - x.sum - behind)) (fun ys H2 => ∃ rs : List Addr, ys = rs.map V.ref ∧ ∀ (i : Nat) (a : Addr), rs[i]? = some a → H' a = none ∧ a ≠ D ∧ H2 a = some (.lst (nats (x ++ [many - x.sum - behind + i])))) hD (by omega) ⟨[], rfl, fun i a h => by simp at h⟩ ?_ ?_ ?_
  · rintro ys H2 zs o hz' ⟨rs, rfl, h⟩
    exact ⟨rs, rfl, fun i a ha => ⟨(h i a ha).1, (h i a ha).2.1, by rw [upd_ne (h i a ha).2.1]; exact (h i a ha).2.2⟩⟩
  · rintro i ys H2 Q' hi s2 hD2 hl ⟨rs, rfl, h⟩ k
    rw [List.length_map] at hl
    refine ⟨_, rfl, _, rfl, small (n := 1) (by decide), fun p1 h1 => ?_⟩
    refine ⟨p, p1, nats x, _, rfl, rfl, Same.new h1 _ _ _ (s2 _ _ hp0), upd_same, by rw [nats_len]; show x.length + 1 ≤ sizeLine; omega, fun p2 h2 => ?_⟩
    have s3 := (Same.new h1 (.lst [.int (((many - x.sum - behind : Nat) : Int) + (i : Int))])).trans (Same.new h2 (.lst (nats x ++ [.int (((many - x.sum - behind : Nat) : Int) + (i : Int))])))
    refine k _ _ s3 ⟨rs ++ [p2], by rw [List.map_append]; rfl, fun j a ha => ?_⟩
    by_cases cj : j < rs.length
    · rw [List.getElem?_append_left cj] at ha
      obtain ⟨f1, f2, f3⟩ := h j a ha
      exact ⟨f1, f2, s3 _ _ f3⟩
    · have e : j = rs.length := by
        have := (List.getElem?_eq_some_iff.mp ha).1
        rw [List.length_append] at this
        simp only [List.length_cons, List.length_nil] at this
        omega
      subst e
      rw [List.getElem?_append_right (Nat.le_refl _), Nat.sub_self] at ha
      cases ha
      refine ⟨s2.free (Same.free (Same.new h1 _) h2), fun w => ?_, ?_⟩
      · rw [w, Same.new h1 _ _ _ hD2] at h2; cases h2
      · rw [upd_same, hl]
        unfold nats
        rw [List.map_append]
        rfl
  · rintro H2 ys s2 hD2 hl ⟨rs, rfl, h⟩
    rw [List.length_map] at hl
    refine q D rs H2 s2 hD2 ⟨by unfold furs; rw [List.length_map, List.length_range, hl], fun i a y h1 h2 => ?_⟩ fun a ha => ?_
    · unfold furs at h2
      rw [List.getElem?_map, List.getElem?_range (by rw [← hl]; exact (List.getElem?_eq_some_iff.mp h1).1)] at h2
      cases h2
      exact (h i a h1).2.2
    · obtain ⟨i, hi⟩ := List.getElem?_of_mem ha
      exact (h i a hi).1
end S70
set_option Elab.async false
set_option linter.all false
set_option maxRecDepth 100000
set_option exponentiation.threshold 5000
namespace S70
open PySem L2 SC PyProof.Rows S40 Ly
theorem sc_all_dealings : FnScope ["rooms", "many", "begun", "behind", "room", "longer", "dealt"] ["rooms", "many"] (defScope (top 36)) := ⟨rfl, rfl, rfl, by decide +kernel, rfl, by decide +kernel, by decide +kernel⟩
theorem v_all_dealings : Vs ["rooms", "many", "begun", "behind", "room", "longer", "dealt"] (defScope (top 36)) := Vs.of (by decide +kernel)
theorem l_all_dealings : Ls ["rooms", "many", "begun", "behind", "room", "longer", "dealt"] (defScope (top 36)) := Ls.of sc_all_dealings.nd (by decide +kernel)
theorem g_all_dealings : Gs ["sum", "dealt_further", "len", "MOST_DEALINGS", "TooMany"] (defScope (top 36)) := Gs.of (by decide +kernel)
theorem ok_all_dealings {P : Program} {w : World} {K : PySem.W.Frag} {mg : Str → Option Value} {base : Heap} {f : Addr} {fd : FuncData} {cl : CN → Addr} (F : Fun K "all_dealings" "all_dealings" (top 36) f fd) (T : Tx K mg cl) (O_dealt_further : Own P w K mg base true 1 "dealt_further" ["dealt", "room", "behind", "many"] (spFurther)) :
    FnOk P w K mg base (CX1 P w) true 2 f fd ["rooms", "many"] (spAllD (cl .TooMany)) := by
  have S := sc_all_dealings
  have Vv := v_all_dealings
  have Lo := l_all_dealings
  have Gg := g_all_dealings
  refine F.ok S (fun vs H Q E h => ?_) (fun cdv A outer s H vs Q E hx hcx hh hr D h => ?_)
  · obtain ⟨p, rs, many, rfl, _⟩ := h; rfl
  obtain ⟨p, rs, many, rfl, hp0, hrl, hrs, hms, q1, q2⟩ := h
  have hp := passesXE (E := E) D
  refine ⟨_, (pss_cons (set_v (i := 2) Lo (pe_lst (pa_cons (pe_lst pa_nil) pa_nil)))
    (pss_cons (set_v (i := 3) Lo (cB (i := 0) Gg (call_sum) T.nsum bt_sum (pa_cons (vn Vv 0) pa_nil)))
    (pss_cons (ps_for hp (pi_list (vn Vv 0)) (tgt_v (i := 4) Lo)
    (pss_cons (set_v (i := 3) Lo (pe_op op_sub (vn Vv 3) (vn Vv 4)))
    (pss_cons (set_v (i := 5) Lo (pe_lst pa_nil))
    (pss_cons (ps_for hp (pi_list (vn Vv 2)) (tgt_v (i := 6) Lo)
    (pss_one (ps_expr (pe_bm PySem.F.plainAttrs_list PySem.F.slot_list_extend PySem.F.type_list_extend mt_extend (vn Vv 5) (pa_cons (cOwn (i := 1) Gg O_dealt_further (hr.mono (by decide)) passX (pa_cons (vn Vv 6) (pa_cons (vn Vv 4) (pa_cons (vn Vv 3) (pa_cons (vn Vv 1) pa_nil))))) pa_nil)))))
    (pss_cons (ps_if (pt_cmpR op_gt (cB (i := 2) Gg (call_len_seq) T.nlen bt_len (pa_cons (vn Vv 5) pa_nil)) (nCon (i := 3) Gg T.cMOST_DEALINGS) (nomark _)) (pss_one (rse (i := 4) Gg T.mTooMany T.xTooMany (pa_cons pe_str pa_nil))) pss_nil)
    (pss_one (set_v (i := 2) Lo (vn Vv 5))))))))
    (pss_one (ps_ret (vn Vv 2)))))), ?_⟩
  have hz : 300000 < sizeLine := by decide
  refine sq4 fun t1 t2 t3 t4 DD a1 a2 a3 a4 aD => ?_
  refine seq_cut (fun σ' H' => ∃ b l0, σ' = [some (.ref p), some (.int many), some (.ref b), none, none, none, none] ∧ Same H H' ∧ H' b = some (.lst [.ref l0]) ∧ H' l0 = some (.lst [])) (fun U hU => ?_) ?_
  · subst a1
    exact ⟨small (n := 0) (by decide), fun l0 hl0 => ⟨small (n := 1) (by decide), fun b hb => hU _ _ ⟨b, l0, rfl, (Same.new hl0 _).trans (Same.new hb _), upd_same, Same.new hb _ _ _ upd_same⟩⟩⟩
  rintro σ' H1 ⟨b, l0, rfl, s1, hb1, hl01⟩
  refine seq_cut (fun σ' H' => σ' = stAD p many b rs.sum none none none ∧ H' = H1) (fun U hU => ?_) ?_
  · subst a2
    exact ⟨_, rfl, p, _, rfl, SqL.of (by rw [s1 _ _ hp0, nats_ints]), hU _ _ ⟨by rw [sum_nats]; rfl, rfl⟩⟩
  rintro σ' H2 ⟨rfl, rfl⟩
  refine seq_cut (fun σ' H' => InvAD p rs many H rs.length σ' H') (fun U hU => ?_) ?_
  · subst a3
    refine ⟨_, rfl, p, rfl, ⟨_, SqL.of (s1 _ _ hp0)⟩, for_list (xs := nats rs) (InvAD p rs many H) ⟨b, [l0], none, none, none, by rw [dst_zero], s1, hb1, ?_, fun j hj => ?_⟩ (fun i σ H2 _ ⟨_, _, _, _, _, _, sm, _⟩ => SqL.of (sm _ _ hp0)) ?_ (fun σ H' h => hU _ _ (by rw [nats_len] at h; exact h))⟩
    · rw [dst_zero]
      refine ⟨rfl, fun i a x h1 h2 => ?_⟩
      have hi : i < 1 := (List.getElem?_eq_some_iff.mp h1).1
      have e : i = 0 := by omega
      subst e
      cases h1
      cases h2
      exact hl01
    · have e : j = 0 := by omega
      subst e
      rw [dst_zero]
      exact (by decide : 1 ≤ 4000)
    rintro i v σ H2 hv ⟨bb, as, x4, x5, x6, rfl, sm, hbb, hls, hsm⟩
    obtain ⟨r, hr, rfl⟩ := nats_at hv
    have hi : i < rs.length := (List.getElem?_eq_some_iff.mp hr).1
    have hbh := dst_bh (many := many) (rs := rs) (i := i) (by omega)
    have hbe := dst_beg hms (i := i) (by omega)
    have hsd := sum_take_drop rs i
    have hru : r ≤ (dst many rs i).2 := by
      rw [hbh]
      obtain ⟨hi', e⟩ := List.getElem?_eq_some_iff.mp hr
      rw [List.drop_eq_getElem_cons hi', e, List.sum_cons]
      omega
    have es := dst_succ (many := many) hr
    have hsi := hsm i (Nat.le_refl _)
    generalize dst many rs i = di at hbh hbe hru es hsi hls
    show tSeq _ _ _ _ _
    refine sq5 fun u1 u2 u3 u4 u5 DE c1 c2 c3 c4 c5 cD => ?_
    refine seq_cut (fun σ' H' => σ' = stAD p many bb (di.2 - r) (some (.int r)) x5 x6 ∧ H' = H2) (fun U hU => ?_) ?_
    · subst c1
      exact ⟨_, rfl, _, rfl, _, _, rfl, rfl, hU _ _ ⟨by unfold stAD; rw [Int.natCast_sub hru]; rfl, rfl⟩⟩
    rintro σ' H3 ⟨rfl, rfl⟩
    refine seq_cut (fun σ' H' => ∃ L, σ' = stAD p many bb (di.2 - r) (some (.int r)) (some (.ref L)) x6 ∧ H3 L = none ∧ H' = upd H3 L (.lst [])) (fun U hU => ?_) ?_
    · subst c2
      exact ⟨small (n := 0) (by decide), fun L hL => hU _ _ ⟨L, rfl, hL, rfl⟩⟩
    rintro σ' H4 ⟨L, rfl, hL, e4⟩
    have s4 : Same H3 H4 := by rw [e4]; exact Same.new hL _
    have hL4 : H4 L = some (.lst []) := by rw [e4]; exact upd_same
    clear e4
    refine seq_cut (fun σ' H' => ∃ as' x6, σ' = stAD p many bb (di.2 - r) (some (.int r)) (some (.ref L)) x6 ∧ Same H3 H' ∧ H' L = some (.lst (List.map V.ref as')) ∧ ListsAt H' as' (di.1.flatMap fun x => furs x r (di.2 - r) many)) (fun U hU => ?_) ?_
    · subst c3
      refine ⟨_, rfl, bb, rfl, ⟨_, SqL.of (s4 _ _ hbb)⟩, for_list (xs := as.map V.ref) (InvADi (fun x6 => stAD p many bb (di.2 - r) (some (.int r)) (some (.ref L)) x6) L di.1 (fun x => furs x r (di.2 - r) many) H3) ⟨[], x6, rfl, s4, hL4, ⟨rfl, fun _ _ _ h => nomatch h⟩, (fun _ h => nomatch h)⟩ (fun j σ' H' _ ⟨_, _, _, sj, _⟩ => SqL.of (sj _ _ hbb)) ?_ ?_⟩
      · rintro j y σ' H' hy ⟨as', x6, rfl, sj, hLj, hlj, hne⟩
        rw [List.getElem?_map] at hy
        obtain ⟨a, ha, rfl⟩ := Option.map_eq_some_iff.mp hy
        have hj : j < as.length := (List.getElem?_eq_some_iff.mp ha).1
        obtain ⟨x, hx⟩ : ∃ x, di.1[j]? = some x := ⟨_, List.getElem?_eq_getElem (by rw [← hls.1]; exact hj)⟩
        have hxa := sj _ _ (hls.2 j a x ha hx)
        obtain ⟨⟨b1, b2⟩, b3⟩ := hbe x (List.mem_of_getElem? hx)
        have et : di.1.take (j + 1) = di.1.take j ++ [x] := by
          obtain ⟨hj', e⟩ := List.getElem?_eq_some_iff.mp hx
          rw [List.take_succ_eq_append_getElem hj', e]
        have hlen : as'.length ≤ 4000 * 65 := by
          rw [hlj.1]
          refine Nat.le_trans (flat_len (m := 65) (fun x => Nat.le_trans (furs_len x r _ many) (by omega)) _) (Nat.mul_le_mul_right _ ?_)
          rw [List.length_take]
          omega
        refine ⟨_, rfl, .inl ⟨rfl, _, SqL.of hLj⟩, _, rfl, _, rfl, _, rfl, _, rfl, a, x, r, di.2 - r, many, rfl, hxa, by omega, b1, by omega, by omega, by omega, fun l rs2 H6 s6 hl6 hls6 hn6 => ?_⟩
        have hl2 : rs2.length ≤ 65 := by rw [hls6.1]; exact Nat.le_trans (furs_len x r _ many) (by omega)
        refine ⟨L, l, _, _, rfl, rfl, s6 _ _ hLj, hl6, by rw [List.length_map, List.length_map]; omega, ?_⟩
        rw [← List.map_append]
        have hne2 : ∀ z ∈ as' ++ rs2, z ≠ L := fun z hz => (List.mem_append.mp hz).elim (hne z) fun w e => by have := hn6 z w; rw [e, hLj] at this; cases this
        refine ⟨as' ++ rs2, _, rfl, (sj.trans s6).upd hL (s6 _ _ hLj) _, upd_same, ?_, hne2⟩
        rw [et, List.flatMap_append, List.flatMap_singleton]
        exact ((hlj.same s6).app hls6).upd hne2
      · rintro σ' H' ⟨as', x6', rfl, sj, hLj, hlj, hne⟩
        rw [List.length_map, hls.1, List.take_length] at hlj
        exact hU _ _ ⟨as', x6', rfl, sj, hLj, hlj⟩
    rintro σ' H5 ⟨as', x6', rfl, s5, hL5, hls5⟩
    have es1 : (dst many rs (i + 1)).1 = di.1.flatMap fun x => furs x r (di.2 - r) many := by rw [es]; rfl
    have es2 : (dst many rs (i + 1)).2 = di.2 - r := by rw [es]; rfl
    rw [← es1] at hls5
    refine seq_cut (fun σ' H' => σ' = stAD p many bb (di.2 - r) (some (.int r)) (some (.ref L)) x6' ∧ H' = H5 ∧ (dst many rs (i + 1)).1.length ≤ 4000) (fun U hU => ?_) ?_
    · subst c4
      refine ⟨_, rfl, L, _, rfl, .inl (SqL.of hL5), _, _, rfl, rfl, _, rfl, ite2 (fun c => ?_) fun c => ?_⟩
      · have c' := of_decide_eq_true c
        rw [List.length_map, hls5.1] at c'
        exact ⟨by decide, q1 ⟨i + 1, by omega, by omega⟩ _ (sm.trans s5)⟩
      · refine hU _ _ ⟨rfl, rfl, Nat.le_of_not_lt fun w => c (decide_eq_true ?_)⟩
        rw [List.length_map, hls5.1]
        omega
    rintro σ' H6 ⟨rfl, rfl, hle⟩
    subst c5 cD
    refine ⟨_, rfl, L, as', some (.int r), some (.ref L), x6', by rw [es2]; rfl, sm.trans s5, hL5, hls5, fun j hj => ?_⟩
    by_cases cj : j = i + 1
    · rw [cj]; exact hle
    · exact hsm j (by omega)
  rintro σ' H3 ⟨bb, as, x4, x5, x6, rfl, sm, hbb, hls, hsm⟩
  subst a4 aD
  exact ⟨_, rfl, q2 hsm bb as H3 sm hbb hls⟩
end S70
set_option Elab.async false
set_option linter.all false
set_option maxRecDepth 100000
set_option exponentiation.threshold 5000
namespace S70
open PySem L2 SC PyProof.Rows S40 Ly
theorem sc_ways_of_dealing : FnScope ["dealt", "passing", "given", "together"] ["dealt"] (defScope (top 37)) := ⟨rfl, rfl, rfl, by decide +kernel, rfl, by decide +kernel, by decide +kernel⟩
theorem v_ways_of_dealing : Vs ["dealt", "passing", "given", "together"] (defScope (top 37)) := Vs.of (by decide +kernel)
theorem l_ways_of_dealing : Ls ["dealt", "passing", "given", "together"] (defScope (top 37)) := Ls.of sc_ways_of_dealing.nd (by decide +kernel)
theorem g_ways_of_dealing : Gs ["max"] (defScope (top 37)) := Gs.of (by decide +kernel)
theorem ok_ways_of_dealing {P : Program} {w : World} {K : PySem.W.Frag} {mg : Str → Option Value} {base : Heap} {f : Addr} {fd : FuncData} {cl : CN → Addr} (F : Fun K "ways_of_dealing" "ways_of_dealing" (top 37) f fd) (T : Tx K mg cl) :
    FnOk P w K mg base (CX1 P w) true 1 f fd ["dealt"] (spWod) := by
  have S := sc_ways_of_dealing
  have Vv := v_ways_of_dealing
  have Lo := l_ways_of_dealing
  have Gg := g_ways_of_dealing
  refine F.ok S (fun vs H Q E h => ?_) (fun cdv A outer s H vs Q E hx hcx hh hr D h => ?_)
  · obtain ⟨p, ds, rfl, _⟩ := h; rfl
  obtain ⟨p, ds, rfl, hp0, q⟩ := h
  have hp := passesXE (E := E) D
  refine ⟨_, (pss_cons (set_v (i := 1) Lo pe_int)
    (pss_cons (ps_for hp (pi_list (vn Vv 0)) (tgt_v (i := 2) Lo)
    (pss_one (set_v (i := 1) Lo (cB (i := 0) Gg (call_max2 rfl) T.nmax bt_max (pa_cons pe_int (pa_cons (pe_op op_sub (pe_op op_add (vn Vv 1) (vn Vv 2)) pe_int) pa_nil))))))
    (pss_cons (set_v (i := 3) Lo pe_int)
    (pss_cons (ps_for hp (pi_list (vn Vv 0)) (tgt_v (i := 2) Lo)
    (pss_cons (set_v (i := 1) Lo (cB (i := 0) Gg (call_max2 rfl) T.nmax bt_max (pa_cons pe_int (pa_cons (pe_op op_sub (pe_op op_add (vn Vv 1) (vn Vv 2)) pe_int) pa_nil))))
    (pss_one (set_v (i := 3) Lo (pe_op op_add (vn Vv 3) (vn Vv 1))))))
    (pss_one (ps_ret (vn Vv 3))))))), ?_⟩
  refine ⟨_, rfl, p, rfl, ⟨_, SqL.of hp0⟩, for_list (xs := nats ds) (fun i σ H2 => ∃ x2 x3, σ = [some (.ref p), some (.int (wrun (ds.take i) 0 : Nat)), x2, x3] ∧ H2 = H) ⟨none, none, rfl, rfl⟩ (fun i σ H2 _ ⟨_, _, _, e⟩ => by rw [e]; exact SqL.of hp0) ?_ ?_⟩
  · rintro i v σ H2 hv ⟨x2, x3, rfl, rfl⟩
    obtain ⟨d, hd, rfl⟩ := nats_at hv
    refine ⟨_, rfl, _, rfl, _, _, rfl, rfl, _, _, rfl, rfl, 0, ((wrun (ds.take i) 0 : Nat) : Int) + (d : Int) - 1, rfl, ?_⟩
    rw [max0, ← wrun_take hd]
    exact ⟨_, _, rfl, rfl⟩
  · rintro σ H2 ⟨x2, x3, rfl, rfl⟩
    rw [nats_len, List.take_length]
    show tSeq _ _ _ _ _
    refine ⟨_, rfl, p, rfl, ⟨_, SqL.of hp0⟩, for_list (xs := nats ds) (fun i σ H3 => ∃ x2, σ = [some (.ref p), some (.int (wrun (ds.take i) (wrun ds 0) : Nat)), x2, some (.int (wtot (ds.take i) (wrun ds 0) : Nat))] ∧ H3 = H2) ⟨x2, rfl, rfl⟩ (fun i σ H3 _ ⟨_, _, e⟩ => by rw [e]; exact SqL.of hp0) ?_ ?_⟩
    · rintro i v σ H3 hv ⟨x2, rfl, rfl⟩
      obtain ⟨d, hd, rfl⟩ := nats_at hv
      refine ⟨_, rfl, _, rfl, _, _, rfl, rfl, _, _, rfl, rfl, 0, ((wrun (ds.take i) (wrun ds 0) : Nat) : Int) + (d : Int) - 1, rfl, ?_⟩
      rw [max0]
      refine ⟨_, rfl, _, rfl, _, _, rfl, rfl, ?_⟩
      exact ⟨_, by rw [wtot_take hd, wrun_take hd, Int.natCast_add]; rfl, rfl⟩
    · rintro σ H3 ⟨x2, rfl, rfl⟩
      rw [nats_len, List.take_length]
      exact ⟨_, rfl, q⟩
end S70
set_option Elab.async false
set_option linter.all false
set_option maxRecDepth 100000
set_option exponentiation.threshold 5000
namespace S70
open PySem L2 SC PyProof.Rows S40 Ly
theorem sc_worst : FnScope ["rule", "size", "many", "limit", "by_home", "dealt", "told", "keys", "given"] ["rule", "size", "many", "limit"] (defScope (top 38)) := ⟨rfl, rfl, rfl, by decide +kernel, rfl, by decide +kernel, by decide +kernel⟩
theorem v_worst : Vs ["rule", "size", "many", "limit", "by_home", "dealt", "told", "keys", "given"] (defScope (top 38)) := Vs.of (by decide +kernel)
theorem l_worst : Ls ["rule", "size", "many", "limit", "by_home", "dealt", "told", "keys", "given"] (defScope (top 38)) := Ls.of sc_worst.nd (by decide +kernel)
theorem g_worst : Gs ["check_rule", "check_size", "check_count", "MOST_LIMIT", "chains", "range", "list", "max", "ways_of_dealing", "all_dealings", "zip", "sorted"] (defScope (top 38)) := Gs.of (by decide +kernel)
theorem ok_worst {P : Program} {w : World} {K : PySem.W.Frag} {mg : Str → Option Value} {base : Heap} {f : Addr} {fd : FuncData} {cl : CN → Addr} (F : Fun K "worst" "worst" (top 38) f fd) (T : Tx K mg cl) (O_check_rule : Own P w K mg base true 4 "check_rule" ["rule"] (spCheckRule (cl .BadRule))) (O_check_size : Own P w K mg base true 2 "check_size" ["size"] (spCheckSize (cl .BadSize))) (O_check_count : Own P w K mg base true 2 "check_count" ["count", "least", "most"] (spCheckCount (cl .BadSize))) (O_chains : Own P w K mg base true 5 "chains" ["rule", "size", "keys"] (spChainsR (cl .BadRule) (cl .BadSize) (cl .BadKey))) (O_all_dealings : Own P w K mg base true 2 "all_dealings" ["rooms", "many"] (spAllD (cl .TooMany))) (O_ways_of_dealing : Own P w K mg base true 1 "ways_of_dealing" ["dealt"] (spWod)) :
    FnOk P w K mg base (CX1 P w) true 6 f fd ["rule", "size", "many", "limit"] (spWorst (cl .BadRule) (cl .BadSize) (cl .TooMany)) := by
  have S := sc_worst
  have Vv := v_worst
  have Lo := l_worst
  have Gg := g_worst
  refine F.ok S (fun vs H Q E h => ?_) (fun cdv A outer s H vs Q E hx hcx hh hr D h => ?_)
  · obtain ⟨v, z, mi, li, rfl, _⟩ := h; rfl
  obtain ⟨v, z, mi, li, rfl, pl, q1, q2, q3⟩ := h
  have hp := passesXE (E := E) D
  refine ⟨_, (pss_cons (ps_expr (cOwn (i := 0) Gg O_check_rule (hr.mono (by decide)) passX (pa_cons (vn Vv 0) pa_nil)))
    (pss_cons (ps_expr (cOwn (i := 1) Gg O_check_size (hr.mono (by decide)) passX (pa_cons (vn Vv 1) pa_nil)))
    (pss_cons (ps_expr (cOwn (i := 2) Gg O_check_count (hr.mono (by decide)) passX (pa_cons (vn Vv 2) (pa_cons pe_int (pa_cons (pe_op op_sub (vn Vv 1) pe_int) pa_nil)))))
    (pss_cons (ps_expr (cOwn (i := 2) Gg O_check_count (hr.mono (by decide)) passX (pa_cons (vn Vv 3) (pa_cons (vn Vv 2) (pa_cons (nCon (i := 3) Gg T.cMOST_LIMIT) pa_nil)))))
    (pss_cons (set_v (i := 4) Lo (cOwn (i := 4) Gg O_chains (hr.mono (by decide)) passX (pa_cons (vn Vv 0) (pa_cons (vn Vv 1) (pa_cons (lRg1 (i := 5) (j := 6) Gg T.nrange T.nlist (pa_cons (vn Vv 3) pa_nil)) pa_nil)))))
    (pss_cons (set_v (i := 5) Lo (mxK (i := 7) (j := 8) Gg T.nmax O_ways_of_dealing (hr.mono (by decide)) (cOwn (i := 9) Gg O_all_dealings (hr.mono (by decide)) passX (pa_cons (cmp (Nc := ["keys"]) (caps := [none]) (j := 0) (N := ["rule", "size", "many", "limit", "by_home", "dealt", "told", "keys", "given"]) (sc := defScope (top 38)) (Lc := ["len"]) ⟨rfl, by decide +kernel, by decide +kernel, by decide +kernel, rfl, by decide +kernel, by decide +kernel, rfl, rfl, by decide +kernel⟩ (pi_list (vn Vv 4)) (fun _ _ _ _ _ _ Vv Gg => pf_nil) (fun _ _ _ _ _ _ Vv Gg => (cB (i := 0) Gg ((call_len_seqK (K := K) rfl)) T.nlen bt_len (pa_cons (vn Vv 0) pa_nil)))) (pa_cons (vn Vv 2) pa_nil)))))
    (pss_cons (set_v (i := 6) Lo (pe_lst pa_nil))
    (pss_cons (ps_for hp (iZp (i := 10) Gg T.nzip (pa_cons (vn Vv 4) (pa_cons (vn Vv 5) pa_nil))) (pg_tup rfl (pgs_cons (tgt_v (i := 7) Lo) (pgs_cons (tgt_v (i := 8) Lo) pgs_nil)))
    (pss_one (ps_expr (pe_bm PySem.F.plainAttrs_list PySem.F.slot_list_extend PySem.F.type_list_extend mt_extend (vn Vv 6) (pa_cons (pe_slice sl_list (vn Vv 7) po_none (po_some (vn Vv 8))) pa_nil)))))
    (pss_one (ps_ret (pe_tup (pa_cons (cB (i := 11) Gg (call_sorted) T.nsorted bt_sorted (pa_cons (vn Vv 6) pa_nil)) (pa_cons (cOwn (i := 8) Gg O_ways_of_dealing (hr.mono (by decide)) passX (pa_cons (vn Vv 5) pa_nil)) pa_nil))))))))))))), ?_⟩
  have hz : 100000 < sizeLine := by decide
  refine sq9 fun t1 t2 t3 t4 t5 t6 t7 t8 t9 DD a1 a2 a3 a4 a5 a6 a7 a8 a9 aD => ?_
  subst a1
  refine ⟨_, rfl, v, rfl, pl, fun H1 s1 => ite2 (fun c => ?_) fun c => by subst aD; exact q1 (Bool.eq_false_iff.mpr c) H1 s1⟩
  obtain ⟨r, ra, rk⟩ := ofRule c
  show tSeq t2 _ _ _ _
  subst a2
  refine ⟨_, rfl, .int z, .int, rfl, .int _, ite2 (fun c2 => ?_) fun c2 => by subst aD; exact q2 c (fun ⟨w1, w2, _⟩ => c2 (wholeV_int w1 w2)) H1 s1⟩
  obtain ⟨zi, e1, z1, z2⟩ := ofWhole c2
  have e1 := V.int.inj e1
  subst e1
  show tSeq t3 _ _ _ _
  subst a3
  refine ⟨_, rfl, _, rfl, _, _, rfl, rfl, .int mi, 0, z - 1, .int, rfl, .int _, ite2 (fun c3 => ?_) fun c3 => by subst aD; exact q2 c (fun ⟨_, _, w1, w2, _⟩ => c3 (wholeV_int w1 w2)) H1 s1⟩
  obtain ⟨mi', e2, m1, m2⟩ := ofWhole c3
  have e2 := V.int.inj e2
  subst e2
  show tSeq t4 _ _ _ _
  subst a4
  refine ⟨_, rfl, _, rfl, .int li, mi, 64, .int, rfl, .int _, ite2 (fun c4 => ?_) fun c4 => by subst aD; exact q2 c (fun ⟨_, _, _, _, w1, w2⟩ => c4 (wholeV_int w1 w2)) H1 s1⟩
  obtain ⟨li', e3, l1, l2⟩ := ofWhole c4
  have e3 := V.int.inj e3
  subst e3
  obtain ⟨n, rfl⟩ : ∃ n : Nat, z = n := ⟨z.toNat, by omega⟩
  obtain ⟨many, rfl⟩ : ∃ n : Nat, mi = n := ⟨mi.toNat, by omega⟩
  obtain ⟨limit, rfl⟩ : ∃ n : Nat, li = n := ⟨li.toNat, by omega⟩
  obtain ⟨qT, qG⟩ := q3 r n many limit ra rk rfl rfl rfl (by omega) (by omega) (by omega) (by omega) (by omega)
  have ra1 := ra.same s1
  have hn : 2 ≤ n ∧ n ≤ 64 ∧ many < n ∧ many ≤ limit ∧ limit ≤ 64 := by omega
  obtain ⟨n2, n64, mn, ml, l64⟩ := hn
  show tSeq t5 _ _ _ _
  refine seq_cut (fun σ' H' => ∃ bh rs, σ' = stW v n many limit (some (.ref bh)) none none none none ∧ Same H H' ∧ ChainsAt H' bh r n (rng limit) rs) (fun U hU => ?_) ?_
  · subst a5
    refine ⟨_, rfl, _, rfl, _, rfl, (limit : Int), rfl, ⟨by omega, by omega⟩, by omega, fun p hp => ?_⟩
    rw [rng_vals]
    have sp := Same.new hp (.lst ((rng limit).map V.int))
    refine ⟨v, .int n, .int, p, _, rfl, (ra1.same sp).plain rk, .int _, upd_same, fun x hx => ?_, ?_, fun H' s' => ⟨fun w => tf ((ra1.same sp).rule rk) w, fun _ w => tf (wholeV_int (by omega) (by omega)) w, fun _ _ w => absurd ⟨_, rng_good l64⟩ w, fun r' n' ks ra' rk' en _ _ g l ks' rs pm pw ca hno => ?_⟩⟩
    · obtain ⟨k, _, rfl⟩ := List.mem_map.mp hx
      exact ⟨.int, .int _, (fun z => nomatch z), (fun z => nomatch z)⟩
    · rw [List.length_map, rng_len]
      rcases Nat.lt_or_eq_of_le l64 with w | w
      · exact .inl w
      · exact .inr ⟨w, rng limit, rfl, rng_le limit⟩
    · have e1 := Rl.inj (ra1.same sp) ra'
      have e2 : n' = n := by have := V.int.inj en; omega
      subst e1 e2
      have e3 : ks = rng limit := (List.map_inj_right (f := V.int) (fun _ _ z => V.int.inj z)).mp (g.1.symm)
      have e4 : ks' = rng limit := sorted_eq pw (rng_le limit) (by rw [← e3]; exact pm)
      subst e4
      exact hU _ _ ⟨l, rs, rfl, s1.trans (sp.trans s'), ca⟩
  rintro σ' H2 ⟨bh, rs, rfl, s2, ca⟩
  have hL := rooms_len r n limit
  have hsum := rooms_sum rk (show 0 < n by omega) limit
  refine seq_cut (fun σ' H' => ∃ a z i, σ' = stW v n many limit (some (.ref bh)) (some (.ref a)) none none none ∧ Same H2 H' ∧ H' a = some (.lst (nats z)) ∧ (dst many (rooms r n limit) n).1[i]? = some z ∧ Best (ways_ r n many limit) (dst many (rooms r n limit) n).1.length i ∧ fewD r n many limit) (fun U hU => ?_) ?_
  · subst a6
    refine ⟨_, rfl, bh, rfl, ⟨_, SqL.of ca.top⟩, fun D hD => comp_listG (xs := rs.map V.ref) (fun i w _ => w = .int ((chn r n (rng limit) i).length : Nat)) (SqL.of ca.top) hD (by rw [List.length_map, ca.len]; omega) (fun _ _ _ _ _ h => h) (fun _ _ _ _ _ _ h => h) (fun i x H' Q' hx sm hQ => ?_) fun H' ys s3 hys hyl hR => ?_⟩
    · rw [List.getElem?_map] at hx
      obtain ⟨c, hc, rfl⟩ := Option.map_eq_some_iff.mp hx
      exact ⟨_, rfl, c, _, rfl, .inl (SqL.of (sm _ _ (ca.at_ i c hc))), hQ _ _ (Same.refl _) (by rw [List.length_map])⟩
    have ey : ys = nats (rooms r n limit) := by
      refine List.ext_getElem? fun i => ?_
      rw [List.length_map, ca.len] at hyl
      by_cases hi : i < n
      · obtain ⟨y, hy⟩ : ∃ y, ys[i]? = some y := ⟨_, List.getElem?_eq_getElem (by omega)⟩
        rw [hy, hR i y hy]
        unfold nats
        rw [List.getElem?_map, rooms_at hi]
        rfl
      · rw [List.getElem?_eq_none (by omega), List.getElem?_eq_none (by rw [nats_len, hL]; omega)]
    rw [ey] at hys
    refine ⟨_, rfl, D, rooms r n limit, many, rfl, hys, by omega, by omega, by omega, fun ⟨i, hi, ho⟩ H'' s'' => qT ⟨i, by omega, ho⟩ H'' (s2.trans (s3.trans s'')), fun few l as H'' s'' hl hls => ?_⟩
    rw [hL] at few hls
    refine nilI ⟨l, as.map V.ref, ways_ r n many limit, rfl, SqL.of hl, by rw [List.length_map, hls.1]; exact dst_pos rk (by omega) ml, fun i x hx => ?_, fun i x hx hb => ?_⟩
    · rw [List.getElem?_map] at hx
      obtain ⟨c, hc, rfl⟩ := Option.map_eq_some_iff.mp hx
      obtain ⟨y, hy⟩ : ∃ y, (dst many (rooms r n limit) n).1[i]? = some y := ⟨_, List.getElem?_eq_getElem (by rw [← hls.1]; exact (List.getElem?_eq_some_iff.mp hc).1)⟩
      refine ⟨c, y, rfl, hls.2 i c y hc hy, ?_, rfl⟩
      unfold ways_
      rw [List.getD_eq_getElem?_getD, hy]
      rfl
    · rw [List.getElem?_map] at hx
      obtain ⟨c, hc, rfl⟩ := Option.map_eq_some_iff.mp hx
      obtain ⟨y, hy⟩ : ∃ y, (dst many (rooms r n limit) n).1[i]? = some y := ⟨_, List.getElem?_eq_getElem (by rw [← hls.1]; exact (List.getElem?_eq_some_iff.mp hc).1)⟩
      rw [List.length_map, hls.1] at hb
      exact hU _ _ ⟨c, y, i, rfl, s3.trans s'', hls.2 i c y hc hy, hy, hb, few⟩
  rintro σ' H3 ⟨a, z, i, rfl, s3, ha3, hzi, hbest, few⟩
  obtain ⟨zl, zf, zs⟩ := dst_n rk (show 0 < n by omega) ml (List.mem_of_getElem? hzi)
  refine seq_cut (fun σ' H' => ∃ T, σ' = stW v n many limit (some (.ref bh)) (some (.ref a)) (some (.ref T)) none none ∧ H3 T = none ∧ H' = upd H3 T (.lst [])) (fun U hU => ?_) ?_
  · subst a7
    exact ⟨small (n := 0) (by decide), fun T hT => hU _ _ ⟨T, rfl, hT, rfl⟩⟩
  rintro σ' H4 ⟨T, rfl, hT, e4⟩
  have s4 : Same H3 H4 := by rw [e4]; exact Same.new hT _
  have hT4 : H4 T = some (.lst ([] : List V)) := by rw [e4]; exact upd_same
  clear e4
  refine seq_cut (fun σ' H' => ∃ x7 x8, σ' = stW v n many limit (some (.ref bh)) (some (.ref a)) (some (.ref T)) x7 x8 ∧ Same H3 H' ∧ H' T = some (.lst ((picksTo r n limit z n).map V.int))) (fun U hU => ?_) ?_
  · subst a8
    have ca4 : ∀ i c, rs[i]? = some c → H4 c = some (.lst ((chn r n (rng limit) i).map V.int)) := fun i c hc => s4 _ _ (s3 _ _ (ca.at_ i c hc))
    have top4 := s4 _ _ (s3 _ _ ca.top)
    have ha4 := s4 _ _ ha3
    refine ⟨_, rfl, _, rfl, bh, a, rfl, ⟨_, top4⟩, ⟨_, ha4⟩, for_zip (xs := rs.map V.ref) (ys := nats z) (InvW (fun x7 x8 => stW v n many limit (some (.ref bh)) (some (.ref a)) (some (.ref T)) x7 x8) H3 T r n limit z) (by rw [nats_len, List.length_map, ca.len, zl]) ⟨_, _, rfl, s4, by rw [hT4]; rfl⟩ (fun i σ' H' _ ⟨_, _, _, sm, _⟩ => ⟨sm _ _ (s3 _ _ ca.top), sm _ _ ha3⟩) ?_ ?_⟩
    · rintro i x y σ' H' p hx hy ⟨x7, x8, rfl, sm, hT'⟩ hp
      rw [List.getElem?_map] at hx
      obtain ⟨c, hc, rfl⟩ := Option.map_eq_some_iff.mp hx
      obtain ⟨d, hd, rfl⟩ := nats_at hy
      have hi : i < n := by have := (List.getElem?_eq_some_iff.mp hc).1; rw [ca.len] at this; exact this
      have sp := Same.new hp (.tup [.ref c, .int d])
      have hT2 := sp _ _ hT'
      have hc2 := sp _ _ (sm _ _ (s3 _ _ (ca.at_ i c hc)))
      have sm2 := sm.trans sp
      generalize upd H' p (.tup [.ref c, .int d]) = HA at sp hT2 hc2 sm2 ⊢
      have hpl := picksTo_len r n limit z i (by omega)
      have htd := sum_take_drop z i
      refine ⟨_, rfl, .inl ⟨rfl, _, SqL.of hT2⟩, _, rfl, _, rfl, (d : Int), rfl, c, _, rfl, SqL.of hc2, fun p2 hp2 => ?_⟩
      rw [cut_takeW]
      have h6 : (chn r n (rng limit) i).length ≤ 64 := by rw [chn_len]; exact Nat.le_trans List.countP_le_length (by rw [rng_len]; exact l64)
      have h7 : ((picksTo r n limit z i).map V.int).length + (((chn r n (rng limit) i).take d).map V.int).length ≤ sizeLine := by
        rw [List.length_map, List.length_map, List.length_take]
        omega
      refine ⟨T, p2, _, _, rfl, rfl, Same.new hp2 _ _ _ hT2, upd_same, h7, ?_⟩
      rw [← List.map_append]
      refine ⟨_, _, rfl, (sm2.trans (Same.new hp2 _)).upd hT (Same.new hp2 _ _ _ hT2) _, ?_⟩
      rw [upd_same, picksTo_succ, List.getD_eq_getElem?_getD, hd]
      rfl
    · rintro σ' H' ⟨x7, x8, rfl, sm, hT'⟩
      rw [List.length_map, ca.len] at hT'
      exact hU _ _ ⟨x7, x8, rfl, sm, hT'⟩
  rintro σ' H5 ⟨x7, x8, rfl, s5, hT5⟩
  subst a9 aD
  have hpl := picksTo_len r n limit z n (by omega)
  rw [List.take_of_length_le (by omega), zs] at hpl
  refine ⟨_, rfl, T, _, rfl, SqL.of hT5, by omega, fun l ks hl pm pw => ?_⟩
  have s6 := Same.new hl (.lst (ks.map V.int))
  refine ⟨_, rfl, a, z, rfl, s6 _ _ (s5 _ _ ha3), nilI ⟨small (n := 2) (by decide), fun p hp => ?_⟩⟩
  exact qG few p l _ z ks (s2.trans (s3.trans (s5.trans (s6.trans (Same.new hp _))))) ⟨⟨i, hzi, hbest⟩, pm, pw⟩ upd_same (Same.new hp _ _ _ upd_same)
end S70
set_option Elab.async false
set_option linter.all false
set_option maxRecDepth 100000
set_option exponentiation.threshold 5000
namespace S70
open PySem L2 SC PyProof.Rows S40 Ly
theorem sc__law_cell : FnScope ["_law_script", "_law_k"] ["_law_script", "_law_k"] (defScope (top 40)) := ⟨rfl, rfl, rfl, by decide +kernel, rfl, by decide +kernel, by decide +kernel⟩
theorem v__law_cell : Vs ["_law_script", "_law_k"] (defScope (top 40)) := Vs.of (by decide +kernel)
theorem l__law_cell : Ls ["_law_script", "_law_k"] (defScope (top 40)) := Ls.of sc__law_cell.nd (by decide +kernel)
theorem g__law_cell : Gs ["len"] (defScope (top 40)) := Gs.of (by decide +kernel)
theorem ok__law_cell {P : Program} {w : World} {K : PySem.W.Frag} {mg : Str → Option Value} {base : Heap} {f : Addr} {fd : FuncData} {cl : CN → Addr} (F : Fun K "_law_cell" "_law_cell" (top 40) f fd) (T : Tx K mg cl) :
    FnOk P w K mg base (CX1 P w) true 1 f fd ["_law_script", "_law_k"] (spCell K) := by
  have S := sc__law_cell
  have Vv := v__law_cell
  have Lo := l__law_cell
  have Gg := g__law_cell
  refine F.ok S (fun vs H Q E h => ?_) (fun cdv A outer s H vs Q E hx hcx hh hr D h => ?_)
  · obtain ⟨v, r, k, rfl, _⟩ := h; rfl
  obtain ⟨p, ns, k, rfl, hp', hbig, ⟨k0, k1⟩, q⟩ := h
  refine ⟨_, (pss_cons (ps_if (pt_cmpR (op_eqL hr.units0) (vn Vv 0) (pe_lst pa_nil) (nomark _)) (pss_one (ps_ret (pe_op op_mulA (vn Vv 1) pe_int))) pss_nil)
    (pss_one (ps_ret (pe_op op_add (pe_ix ix_list (vn Vv 0) (pe_op op_mod (vn Vv 1) (cB (i := 0) Gg (call_len_seq) T.nlen bt_len (pa_cons (vn Vv 0) pa_nil))) (fun _ _ => rfl)) (pe_op op_mulA (pe_op op_fdivA (vn Vv 1) (cB (i := 0) Gg (call_len_seq) T.nlen bt_len (pa_cons (vn Vv 0) pa_nil))) pe_int))))), ?_⟩
  refine ⟨_, rfl, (by decide), fun l hl => ?_⟩
  have s1 := Same.new hl (.lst [])
  refine ⟨p, l, _, _, rfl, rfl, s1.seq hp', SqL.of upd_same, flat_ints ns, rfl, _, rfl, ite2 (fun c => ?_) fun c => ?_⟩
  · exact ⟨_, rfl, _, _, rfl, rfl, mulC (by decide) (by decide), q _ _ s1⟩
  · have hz : sizeLine < 2 ^ 60 := by decide
    have hne : ns ≠ [] := fun e => c (by rw [e]; rfl)
    have hl2 : 0 < ns.length := List.length_pos_iff.mpr hne
    have hl3 : (0 : Int) < ((ns.map V.int).length : Nat) := by rw [List.length_map]; omega
    have hp1 := s1.seq hp'
    obtain ⟨v, e1, e2⟩ := pick (xs := ns.map V.int) k _ rfl hl3
    obtain ⟨n, _, rfl⟩ := List.mem_map.mp e2
    exact ⟨_, rfl, _, rfl, _, rfl, p, _, rfl, .inl hp1, _, _, rfl, rfl, hl3, p, _, _, _, rfl, rfl, hp1, e1, _, rfl, _, rfl, p, _, rfl, .inl hp1, _, _, rfl, rfl, divC hl3 (by rw [List.length_map]; omega), _, _, rfl, rfl, mulC (by decide) (by decide), _, _, rfl, rfl, q _ _ s1⟩
end S70
set_option Elab.async false
set_option linter.all false
set_option maxRecDepth 100000
set_option exponentiation.threshold 5000
namespace S70
open PySem L2 SC PyProof.Rows S40 Ly
theorem sc__law_drawn : FnScope ["_law_cell_here", "_law_k", "_law_more"] ["_law_cell_here", "_law_k"] (defScope (top 41)) := ⟨rfl, rfl, rfl, by decide +kernel, rfl, by decide +kernel, by decide +kernel⟩
theorem v__law_drawn : Vs ["_law_cell_here", "_law_k", "_law_more"] (defScope (top 41)) := Vs.of (by decide +kernel)
theorem l__law_drawn : Ls ["_law_cell_here", "_law_k", "_law_more"] (defScope (top 41)) := Ls.of sc__law_drawn.nd (by decide +kernel)
theorem g__law_drawn : Gs [] (defScope (top 41)) := Gs.of (by decide +kernel)
theorem ok__law_drawn {P : Program} {w : World} {K : PySem.W.Frag} {mg : Str → Option Value} {base : Heap} {f : Addr} {fd : FuncData} {cl : CN → Addr} (F : Fun K "_law_drawn" "_law_drawn" (top 41) f fd) (T : Tx K mg cl) :
    FnOk P w K mg base (CX1 P w) true 1 f fd ["_law_cell_here", "_law_k"] (spDrawn) := by
  have S := sc__law_drawn
  have Vv := v__law_drawn
  have Lo := l__law_drawn
  have Gg := g__law_drawn
  refine F.ok S (fun vs H Q E h => ?_) (fun cdv A outer s H vs Q E hx hcx hh hr D h => ?_)
  · obtain ⟨v, r, rfl, _⟩ := h; rfl
  obtain ⟨c, k, rfl, q⟩ := h
  refine ⟨_, (pss_cons (set_v (i := 2) Lo (pe_op op_mod (pe_op op_add (pe_op op_mulA (vn Vv 0) pe_int) (pe_op op_mulA (pe_op op_add (vn Vv 1) pe_int) pe_int)) pe_int))
    (pss_one (ps_ret (pe_op op_mod (pe_op op_mulA (vn Vv 2) (vn Vv 2)) pe_int)))), ?_⟩
  exact ⟨_, rfl, _, _, rfl, rfl, mulC (by decide) (by decide), _, rfl, _, _, rfl, rfl, _, _, rfl, rfl, mulC (by decide) (by decide), _, _, rfl, rfl, _, _, rfl, rfl, posJ (by decide),
    _, rfl, _, rfl, _, _, rfl, rfl, mulM _, _, _, rfl, rfl, posJ (by decide), q _ (Int.emod_nonneg _ (by decide)) (Int.lt_of_lt_of_le (Int.emod_lt_of_pos _ (by decide)) (by decide))⟩
end S70
set_option Elab.async false
set_option linter.all false
set_option maxRecDepth 100000
set_option exponentiation.threshold 5000
namespace S70
open PySem L2 SC PyProof.Rows S40 Ly
theorem sc__law_word : FnScope ["_law_e", "_law_flags"] ["_law_e"] (defScope (top 42)) := ⟨rfl, rfl, rfl, by decide +kernel, rfl, by decide +kernel, by decide +kernel⟩
theorem v__law_word : Vs ["_law_e", "_law_flags"] (defScope (top 42)) := Vs.of (by decide +kernel)
theorem l__law_word : Ls ["_law_e", "_law_flags"] (defScope (top 42)) := Ls.of sc__law_word.nd (by decide +kernel)
theorem g__law_word : Gs ["isinstance", "BadRule", "BadKey", "BadSize", "Full", "TooMany", "sum", "ValueError"] (defScope (top 42)) := Gs.of (by decide +kernel)
theorem ok__law_word {P : Program} {w : World} {K : PySem.W.Frag} {mg : Str → Option Value} {base : Heap} {f : Addr} {fd : FuncData} {cl : CN → Addr} (F : Fun K "_law_word" "_law_word" (top 42) f fd) (T : Tx K mg cl) :
    FnOk P w K mg base (CX1 P w) false 1 f fd ["_law_e"] (spWord K cl) := by
  have S := sc__law_word
  have Vv := v__law_word
  have Lo := l__law_word
  have Gg := g__law_word
  refine F.ok S (fun vs H Q E h => ?_) (fun cdv A outer s H vs Q E hx hcx hh hr D h => ?_)
  · obtain ⟨a, o, C, j, rfl, _⟩ := h; rfl
  obtain ⟨a, o, C, j, rfl, ha, ho, W, hj, q⟩ := h
  refine ⟨_, (pss_cons (set_v (i := 1) Lo (pe_lst (pa_cons (cB (i := 0) Gg (call_isiE) T.nisinstance bt_isinstance (pa_cons (vn Vv 0) (pa_cons (nCls (i := 1) Gg T.mBadRule) pa_nil))) (pa_cons (cB (i := 0) Gg (call_isiE) T.nisinstance bt_isinstance (pa_cons (vn Vv 0) (pa_cons (nCls (i := 2) Gg T.mBadKey) pa_nil))) (pa_cons (cB (i := 0) Gg (call_isiE) T.nisinstance bt_isinstance (pa_cons (vn Vv 0) (pa_cons (nCls (i := 3) Gg T.mBadSize) pa_nil))) pa_nil)))))
    (pss_cons (set_v (i := 1) Lo (pe_op op_cat (vn Vv 1) (pe_lst (pa_cons (cB (i := 0) Gg (call_isiE) T.nisinstance bt_isinstance (pa_cons (vn Vv 0) (pa_cons (nCls (i := 4) Gg T.mFull) pa_nil))) pa_nil))))
    (pss_cons (ps_expr (pe_bm PySem.F.plainAttrs_list PySem.F.slot_list_append PySem.F.type_list_append mt_append (vn Vv 1) (pa_cons (cB (i := 0) Gg (call_isiE) T.nisinstance bt_isinstance (pa_cons (vn Vv 0) (pa_cons (nCls (i := 5) Gg T.mTooMany) pa_nil))) pa_nil)))
    (pss_cons (ps_if (PW.pt (pw_or (pt_cmpR op_ne (cB (i := 6) Gg (call_sum) T.nsum bt_sum (pa_cons (cmp (Nc := ["_law_flag"]) (caps := [none]) (j := 0) (N := ["_law_e", "_law_flags"]) (sc := defScope (top 42)) (Lc := ["int"]) ⟨rfl, by decide +kernel, by decide +kernel, by decide +kernel, rfl, by decide +kernel, by decide +kernel, rfl, rfl, by decide +kernel⟩ (pi_list (vn Vv 1)) (fun _ _ _ _ _ _ Vv Gg => pf_nil) (fun _ _ _ _ _ _ Vv Gg => (cTy (i := 0) Gg call_int1 T.nint bt_int (pa_cons (vn Vv 0) pa_nil)))) pa_nil)) pe_int (nomark _)) (pw_or1 (pt_not (pt_val (cB (i := 0) Gg (call_isiE) T.nisinstance bt_isinstance (pa_cons (vn Vv 0) (pa_cons (nTy (i := 7) Gg T.nValueError bt_ValueError) pa_nil)))))))) (pss_one (ps_ret pe_str)) pss_nil)
    (pss_one (ps_ret (pe_ix ix_list (pe_lst (pa_cons pe_str (pa_cons pe_str (pa_cons pe_str (pa_cons pe_str (pa_cons pe_str pa_nil)))))) (pe_bm PySem.F.plainAttrs_list PySem.F.slot_list_index PySem.F.type_list_index mt_index (vn Vv 1) (pa_cons pe_bl pa_nil)) (fun _ _ => rfl)))))))), ?_⟩
  refine ⟨_, rfl, _, _, C, _, rfl, ⟨a, o, rfl, ha, ho⟩, W.k, kc W.f0, _, rfl, _, _, C, _, rfl, ⟨a, o, rfl, ha, ho⟩, W.k, kc W.f1, _, rfl, _, _, C, _, rfl, ⟨a, o, rfl, ha, ho⟩, W.k, kc W.f2, small (n := 3) (by decide), fun p1 h1 => ?_⟩
  have s1 := Same.new h1 (.lst [.bl (j == 0), .bl (j == 1), .bl (j == 2)])
  refine ⟨_, rfl, _, rfl, _, _, C, _, rfl, ⟨a, o, rfl, s1 _ _ ha, ho⟩, W.k, kc W.f3, small (n := 1) (by decide), fun p2 h2 => ?_⟩
  have s2 := Same.new h2 (.lst [.bl (j == 3)])
  refine ⟨p1, p2, _, _, rfl, rfl, s2 _ _ upd_same, upd_same, small (n := 4) (by decide), fun p3 h3 => ?_⟩
  have s3 := Same.new h3 (.lst ([.bl (j == 0), .bl (j == 1), .bl (j == 2)] ++ [.bl (j == 3)]))
  have sA := s1.trans (s2.trans s3)
  refine ⟨_, rfl, .inl ⟨rfl, _, SqL.of upd_same⟩, _, rfl, _, _, C, _, rfl, ⟨a, o, rfl, sA _ _ ha, ho⟩, W.k, kc W.f4, p3, _, _, rfl, rfl, upd_same, small1000 (n := 4) (by decide), ?_⟩
  rw [upd_upd]
  have hn3 : H p3 = none := (s1.trans s2).free h3
  have sB : Same H (upd (upd (upd H p1 (.lst [.bl (j == 0), .bl (j == 1), .bl (j == 2)])) p2 (.lst [.bl (j == 3)])) p3 (.lst (([.bl (j == 0), .bl (j == 1), .bl (j == 2)] ++ [.bl (j == 3)]) ++ [.bl (j == 4)]))) := (s1.trans s2).trans (Same.new h3 _)
  have hp3 : (upd (upd (upd H p1 (.lst [.bl (j == 0), .bl (j == 1), .bl (j == 2)])) p2 (.lst [.bl (j == 3)])) p3 (.lst (([.bl (j == 0), .bl (j == 1), .bl (j == 2)] ++ [.bl (j == 3)]) ++ [.bl (j == 4)]))) p3 = some (.lst ([j == 0, j == 1, j == 2, j == 3, j == 4].map V.bl)) := upd_same
  revert sB hp3
  generalize (upd (upd (upd H p1 (.lst [.bl (j == 0), .bl (j == 1), .bl (j == 2)])) p2 (.lst [.bl (j == 3)])) p3 (.lst (([.bl (j == 0), .bl (j == 1), .bl (j == 2)] ++ [.bl (j == 3)]) ++ [.bl (j == 4)]))) = H3
  intro sB hp3
  refine ⟨_, rfl, p3, rfl, ⟨_, SqL.of hp3⟩, fun D hD => comp_list (xs := [j == 0, j == 1, j == 2, j == 3, j == 4].map V.bl) flagI (SqL.of hp3) hD (by simp) (fun x ys Q' hx hQ => ?_) ?_⟩
  · obtain ⟨b, _, rfl⟩ := List.mem_map.mp hx
    exact ⟨_, rfl, .inr ⟨b, rfl, hQ⟩⟩
  · refine ⟨D, [j == 0, j == 1, j == 2, j == 3, j == 4].map fun b => if b then 1 else 0, rfl, SqL.of (by rw [upd_same, List.map_map, List.map_map]; rfl), rfl, _, rfl, ?_⟩
    have sD := Same.new hD (.lst (([j == 0, j == 1, j == 2, j == 3, j == 4].map V.bl).map flagI))
    have hs : (([j == 0, j == 1, j == 2, j == 3, j == 4].map fun b => if b = true then (1 : Int) else 0).sum) = 1 := by rcases j5 hj with rfl | rfl | rfl | rfl | rfl <;> rfl
    refine iteNS (congrArg V.int hs) ⟨_, rfl, _, _, C, _, rfl, ⟨a, o, rfl, sD _ _ (sB _ _ ha), ho⟩, W.k, kty W.v, _, rfl, iteF ?_⟩
    refine ⟨small (n := 5) (by decide), fun p6 h6 => ?_⟩
    have s6 := Same.new h6 (.lst [.str "BadRule", .str "BadKey", .str "BadSize", .str "Full", .str "TooMany"])
    have h3' := s6 _ _ (sD _ _ hp3)
    refine ⟨_, rfl, .inl ⟨rfl, _, SqL.of h3'⟩, p3, _, .bl true, j, rfl, rfl, h3', rfl, rfl, ?_, p6, _, _, .str (nm j), rfl, rfl, SqL.of upd_same, ?_, q _ (sB.trans (sD.trans s6))⟩
    · rcases j5 hj with rfl | rfl | rfl | rfl | rfl <;> rfl
    · refine atI_nat ?_
      rcases j5 hj with rfl | rfl | rfl | rfl | rfl <;> rfl
end S70
set_option Elab.async false
set_option linter.all false
set_option maxRecDepth 100000
set_option exponentiation.threshold 5000
namespace S70
open PySem L2 SC PyProof.Rows S40 Ly
theorem sc__law_rule : FnScope ["_law_more", "_law_a", "_law_many"] ["_law_more"] (defScope (top 43)) := ⟨rfl, rfl, rfl, by decide +kernel, rfl, by decide +kernel, by decide +kernel⟩
theorem v__law_rule : Vs ["_law_more", "_law_a", "_law_many"] (defScope (top 43)) := Vs.of (by decide +kernel)
theorem l__law_rule : Ls ["_law_more", "_law_a", "_law_many"] (defScope (top 43)) := Ls.of sc__law_rule.nd (by decide +kernel)
theorem g__law_rule : Gs ["tuple", "range"] (defScope (top 43)) := Gs.of (by decide +kernel)
theorem ok__law_rule {P : Program} {w : World} {K : PySem.W.Frag} {mg : Str → Option Value} {base : Heap} {f : Addr} {fd : FuncData} {cl : CN → Addr} (F : Fun K "_law_rule" "_law_rule" (top 43) f fd) (T : Tx K mg cl) :
    FnOk P w K mg base (CX1 P w) true 1 f fd ["_law_more"] (spRuleL) := by
  have S := sc__law_rule
  have Vv := v__law_rule
  have Lo := l__law_rule
  have Gg := g__law_rule
  refine F.ok S (fun vs H Q E h => ?_) (fun cdv A outer s H vs Q E hx hcx hh hr D h => ?_)
  · obtain ⟨v, rfl, _⟩ := h; rfl
  obtain ⟨m, rfl, m0, m1, q⟩ := h
  refine ⟨_, (pss_cons (set_v (i := 1) Lo (pe_ix ix_list (pe_lst (pa_cons pe_int (pa_cons pe_int (pa_cons pe_int (pa_cons pe_int (pa_cons pe_int (pa_cons (pe_op op_mod (pe_op op_fdivA (vn Vv 0) pe_int) pe_int) pa_nil))))))) (pe_op op_mod (pe_op op_fdivA (vn Vv 0) pe_int) pe_int) (fun _ _ => rfl)))
    (pss_cons (ps_if (pt_cmpR op_eq (pe_op op_mod (vn Vv 0) pe_int) pe_int (nomark _)) (pss_one (ps_ret (pe_tup (pa_cons pe_str (pa_cons (vn Vv 1) (pa_cons (pe_ix ix_list (pe_lst (pa_cons pe_int (pa_cons pe_int (pa_cons pe_int (pa_cons (pe_op op_mod (pe_op op_fdivA (vn Vv 0) (pe_op op_pow pe_int pe_int)) pe_int) pa_nil))))) (pe_op op_mod (pe_op op_fdivA (vn Vv 0) (pe_op op_pow pe_int pe_int)) pe_int) (fun _ _ => rfl)) pa_nil)))))) pss_nil)
    (pss_cons (ps_if (pt_cmpR op_eq (pe_op op_mod (vn Vv 0) pe_int) pe_int (nomark _)) (pss_one (ps_ret (pe_tup (pa_cons pe_str (pa_cons (vn Vv 1) (pa_cons (pe_ix ix_list (pe_lst (pa_cons pe_int (pa_cons pe_int (pa_cons pe_int (pa_cons pe_int (pa_cons (pe_op op_add pe_int (pe_op op_mod (pe_op op_fdivA (vn Vv 0) (pe_op op_pow pe_int pe_int)) pe_int)) pa_nil)))))) (pe_op op_mod (pe_op op_fdivA (vn Vv 0) (pe_op op_pow pe_int pe_int)) pe_int) (fun _ _ => rfl)) pa_nil)))))) pss_nil)
    (pss_cons (set_v (i := 2) Lo (pe_ix ix_list (pe_lst (pa_cons pe_int (pa_cons pe_int (pa_cons pe_int (pa_cons pe_int (pa_cons pe_int pa_nil)))))) (pe_op op_mod (pe_op op_fdivA (vn Vv 0) (pe_op op_pow pe_int pe_int)) pe_int) (fun _ _ => rfl)))
    (pss_one (ps_ret (pe_tup (pa_cons pe_str (pa_cons (cTy (i := 0) Gg call_tuple_of T.ntuple bt_tuple (pa_cons (cmp (Nc := ["_law_j", "_law_more"]) (caps := [none, some 0]) (j := 0) (N := ["_law_more", "_law_a", "_law_many"]) (sc := defScope (top 43)) (Lc := []) ⟨rfl, by decide +kernel, by decide +kernel, by decide +kernel, rfl, by decide +kernel, by decide +kernel, rfl, rfl, by decide +kernel⟩ (iR1 (i := 1) Gg T.nrange (pa_cons (vn Vv 2) pa_nil)) (fun _ _ _ _ _ _ Vv Gg => pf_nil) (fun _ _ _ _ _ _ Vv Gg => (pe_op op_mod (pe_op op_fdivA (vn Vv 1) (pe_op op_shl pe_int (vn Vv 0))) (pe_ix (ix_listK (K := K) rfl) (pe_lst (pa_cons pe_int (pa_cons pe_int (pa_cons pe_int pa_nil)))) (pe_op op_mod (pe_op op_fdivA (vn Vv 1) (pe_op op_pow pe_int pe_int)) pe_int) (fun _ _ => rfl))))) pa_nil)) pa_nil))))))))), ?_⟩
  obtain ⟨v1, e1, e2⟩ := pick (xs := [1, 3, 7, 0, 999999, m / 64 % 1000000].map V.int) (m / 8) 6 rfl (by decide)
  obtain ⟨a, rfl, a0, a1⟩ := memI (fun i => 0 ≤ i ∧ i ≤ 999999) e2 (allC (by omega) (allC (by omega) (allC (by omega) (allC (by omega) (allC (by omega) (allC (by omega) allI))))))
  refine ⟨_, rfl, _, _, rfl, rfl, divC (by decide) (by decide), _, _, rfl, rfl, posJ (by decide), small (n := 6) (by decide), fun p1 h1 => ?_⟩
  refine ⟨_, rfl, _, _, rfl, rfl, divC (by decide) (by decide), _, _, rfl, rfl, posJ (by decide), p1, _, _, _, rfl, rfl, SqL.of upd_same, e1, ?_⟩
  have s1 := Same.new h1 (.lst ([1, 3, 7, 0, 999999, m / 64 % 1000000].map V.int))
  generalize hH1 : upd H p1 (.lst ([1, 3, 7, 0, 999999, m / 64 % 1000000].map V.int)) = H1 at s1
  refine ⟨_, rfl, _, _, rfl, rfl, posJ (by decide), rfl, _, rfl, ite2 (fun c => ?_) fun c => ?_⟩
  · obtain ⟨v2, e3, e4⟩ := pick (xs := [0, 5, 999999, m / 2 ^ 24 % 1000].map V.int) (m / 2 ^ 20) 4 rfl (by decide)
    obtain ⟨b, rfl, b0, b1⟩ := memI (fun i => 0 ≤ i ∧ i ≤ 999999) e4 (allC (by omega) (allC (by omega) (allC (by omega) (allC (by omega) allI))))
    refine ⟨_, rfl, _, rfl, _, _, rfl, rfl, cpw (by decide) (by decide), _, _, rfl, rfl, divC (by decide) (by decide), _, _, rfl, rfl, posJ (by decide), small (n := 4) (by decide), fun p2 h2 => ?_⟩
    refine ⟨_, rfl, _, _, rfl, rfl, cpw (by decide) (by decide), _, _, rfl, rfl, divC (by decide) (by decide), _, _, rfl, rfl, posJ (by decide), p2, _, _, _, rfl, rfl, SqL.of upd_same, e3, small (n := 3) (by decide), fun p3 h3 => ?_⟩
    exact q _ (.times a b) _ ((Same.new h1 _).trans ((Same.new h2 _).trans (Same.new h3 _))) ⟨p3, rfl, upd_same⟩ ⟨⟨a0, a1⟩, b0, b1⟩
  refine ⟨_, rfl, _, _, rfl, rfl, posJ (by decide), rfl, _, rfl, ite2 (fun c => ?_) fun c => ?_⟩
  · obtain ⟨v2, e3, e4⟩ := pick (xs := [1, 3, 8, 30, 1 + m / 2 ^ 24 % 30].map V.int) (m / 2 ^ 20) 5 rfl (by decide)
    obtain ⟨b, rfl, b0, b1⟩ := memI (fun i => 1 ≤ i ∧ i ≤ 30) e4 (allC (by omega) (allC (by omega) (allC (by omega) (allC (by omega) (allC (by omega) allI)))))
    refine ⟨_, rfl, _, rfl, _, _, rfl, rfl, cpw (by decide) (by decide), _, _, rfl, rfl, divC (by decide) (by decide), _, _, rfl, rfl, posJ (by decide), _, _, rfl, rfl, small (n := 5) (by decide), fun p2 h2 => ?_⟩
    refine ⟨_, rfl, _, _, rfl, rfl, cpw (by decide) (by decide), _, _, rfl, rfl, divC (by decide) (by decide), _, _, rfl, rfl, posJ (by decide), p2, _, _, _, rfl, rfl, SqL.of upd_same, e3, small (n := 3) (by decide), fun p3 h3 => ?_⟩
    exact q _ (.high a b) _ ((Same.new h1 _).trans ((Same.new h2 _).trans (Same.new h3 _))) ⟨p3, rfl, upd_same⟩ ⟨⟨a0, a1⟩, b0, b1⟩
  obtain ⟨v2, e3, e4⟩ := pick (xs := [1, 2, 5, 8, 64].map V.int) (m / 2 ^ 20) 5 rfl (by decide)
  obtain ⟨n, rfl, n0, n1⟩ := memI (fun i => 1 ≤ i ∧ i ≤ 64) e4 (allC (by omega) (allC (by omega) (allC (by omega) (allC (by omega) (allC (by omega) allI)))))
  refine ⟨small (n := 5) (by decide), fun p2 h2 => ?_⟩
  refine ⟨_, rfl, _, _, rfl, rfl, cpw (by decide) (by decide), _, _, rfl, rfl, divC (by decide) (by decide), _, _, rfl, rfl, posJ (by decide), p2, _, _, _, rfl, rfl, SqL.of upd_same, e3, ?_⟩
  refine ⟨_, rfl, n, rfl, (by omega), (by omega), fun D hD => comp_rangeG (lo := 0) (n := n.toNat) (fun _ v => ∃ i, v = .int i ∧ 0 ≤ i ∧ i ≤ 999) hD (by omega) (fun i ys H3 Q' hi s3 hys hQ => ?_) fun H3 ys s3 hys hl hR => ?_⟩
  · obtain ⟨v3, e5, e6⟩ := pick (xs := [2, 4, 1000].map V.int) (m / 2 ^ 30) 3 rfl (by decide)
    obtain ⟨d, rfl, d0, d1⟩ := memI (fun i => 1 ≤ i ∧ i ≤ 1000) e6 (allC (by omega) (allC (by omega) (allC (by omega) allI)))
    refine ⟨_, rfl, _, rfl, _, _, rfl, rfl, cpw1 (by omega) (by omega), _, _, rfl, rfl, shl1 (by omega), small (n := 3) (by decide), fun p4 h4 => ?_⟩
    refine ⟨_, rfl, _, _, rfl, rfl, cpw (by decide) (by decide), _, _, rfl, rfl, divC (by decide) (by decide), _, _, rfl, rfl, posJ (by decide), p4, _, _, _, rfl, rfl, SqL.of upd_same, e5, _, _, rfl, rfl, posJ (by omega), ?_⟩
    exact hQ _ _ ⟨_, rfl, Int.emod_nonneg _ (by omega), by have := Int.emod_lt_of_pos (m / (1 * 2 ^ (0 + (i : Int)).toNat)) (show 0 < d by omega); omega⟩ (Same.new h4 _)
  · have hz : ∃ ns : List Int, ys = ns.map V.int ∧ ∀ n ∈ ns, 0 ≤ n ∧ n ≤ 999 := allWhole (hi := 999) (List.all_eq_true.mpr fun y hy => by
      obtain ⟨k, hk⟩ := List.getElem?_of_mem hy
      obtain ⟨i, rfl, i0, i1⟩ := hR k y hk
      exact wholeV_int i0 i1)
    obtain ⟨ns, rfl, hns⟩ := hz
    rw [List.length_map] at hl
    refine ⟨D, _, rfl, .inl ⟨SqL.of hys, fun l hl2 => ⟨small (n := 2) (by decide), fun p5 h5 => ?_⟩⟩⟩
    exact q _ (.told ns) _ ((Same.new h1 _).trans ((Same.new h2 _).trans (s3.trans ((Same.new hl2 _).trans (Same.new h5 _))))) ⟨p5, l, rfl, upd_same, Same.new h5 _ _ _ upd_same⟩ ⟨⟨by omega, by omega⟩, hns⟩
end S70
set_option Elab.async false
set_option linter.all false
set_option maxRecDepth 100000
set_option exponentiation.threshold 5000
namespace S70
open PySem L2 SC PyProof.Rows S40 Ly
theorem sc__law_home : FnScope ["_law_rule_here", "_law_key", "_law_size", "_law_whole", "_law_turn"] ["_law_rule_here", "_law_key", "_law_size"] (defScope (top 44)) := ⟨rfl, rfl, rfl, by decide +kernel, rfl, by decide +kernel, by decide +kernel⟩
theorem v__law_home : Vs ["_law_rule_here", "_law_key", "_law_size", "_law_whole", "_law_turn"] (defScope (top 44)) := Vs.of (by decide +kernel)
theorem l__law_home : Ls ["_law_rule_here", "_law_key", "_law_size", "_law_whole", "_law_turn"] (defScope (top 44)) := Ls.of sc__law_home.nd (by decide +kernel)
theorem g__law_home : Gs ["len", "range"] (defScope (top 44)) := Gs.of (by decide +kernel)
theorem ok__law_home {P : Program} {w : World} {K : PySem.W.Frag} {mg : Str → Option Value} {base : Heap} {f : Addr} {fd : FuncData} {cl : CN → Addr} (F : Fun K "_law_home" "_law_home" (top 44) f fd) (T : Tx K mg cl) :
    FnOk P w K mg base (CX1 P w) true 1 f fd ["_law_rule_here", "_law_key", "_law_size"] (spHomeL) := by
  have S := sc__law_home
  have Vv := v__law_home
  have Lo := l__law_home
  have Gg := g__law_home
  refine F.ok S (fun vs H Q E h => ?_) (fun cdv A outer s H vs Q E hx hcx hh hr D h => ?_)
  · obtain ⟨v, r, k, z, rfl, _⟩ := h; rfl
  obtain ⟨v, r, k, z, rfl, ra, rk, ⟨k0, k1⟩, ⟨z0, z1⟩, q⟩ := h
  have hp := passesXE (E := E) D
  refine ⟨_, (pss_cons (ps_if (pt_cmpR op_eq (pe_ix ix_tup (vn Vv 0) pe_int (fun _ _ => rfl)) pe_str (nomark _)) (pss_one (ps_ret (pe_op op_mod (pe_op op_add (pe_op op_mulA (pe_ix ix_tup (vn Vv 0) pe_int (fun _ _ => rfl)) (vn Vv 1)) (pe_ix ix_tup (vn Vv 0) pe_int (fun _ _ => rfl))) (vn Vv 2)))) pss_nil)
    (pss_cons (ps_if (pt_cmpR op_eq (pe_ix ix_tup (vn Vv 0) pe_int (fun _ _ => rfl)) pe_str (nomark _)) (pss_one (ps_ret (pe_op op_mod (pe_ix ix_tup (pe_ix ix_tup (vn Vv 0) pe_int (fun _ _ => rfl)) (pe_op op_mod (vn Vv 1) (cB (i := 0) Gg (call_len_seq) T.nlen bt_len (pa_cons (pe_ix ix_tup (vn Vv 0) pe_int (fun _ _ => rfl)) pa_nil))) (fun _ _ => rfl)) (vn Vv 2)))) pss_nil)
    (pss_cons (set_v (i := 3) Lo pe_int)
    (pss_cons (ps_for hp (iR1 (i := 1) Gg T.nrange (pa_cons (pe_op op_sub (pe_ix ix_tup (vn Vv 0) pe_int (fun _ _ => rfl)) pe_int) pa_nil)) (tgt_v (i := 4) Lo)
    (pss_one (set_v (i := 3) Lo (pe_op op_mulA (vn Vv 3) pe_int))))
    (pss_one (ps_ret (pe_op op_fdivA (pe_op op_mulA (pe_op op_mod (pe_op op_mulA (pe_ix ix_tup (vn Vv 0) pe_int (fun _ _ => rfl)) (vn Vv 1)) (vn Vv 3)) (vn Vv 2)) (vn Vv 3)))))))), ?_⟩
  cases r with
  | times a b =>
    obtain ⟨p, rfl, hp⟩ := ra
    refine ⟨_, rfl, p, _, _, .str "times", rfl, rfl, SqT.of hp, rfl, rfl, _, rfl, iteY (sY _) ?_⟩
    refine ⟨_, rfl, p, _, _, .int a, rfl, rfl, SqT.of hp, rfl, _, rfl, _, _, rfl, rfl, mulS k0 (by omega), _, rfl, p, _, _, .int b, rfl, rfl, SqT.of hp, rfl, _, _, rfl, rfl, _, rfl, _, _, rfl, rfl, (by omega), q⟩
  | high a b =>
    obtain ⟨p, rfl, hp⟩ := ra
    obtain ⟨⟨a0, a1⟩, b0, b1⟩ := rk
    obtain ⟨w0, w1⟩ := pow30 (n := b.toNat) (by omega)
    refine ⟨_, rfl, p, _, _, .str "high", rfl, rfl, SqT.of hp, rfl, rfl, _, rfl, iteN (by rw [sT _ _ (by decide +kernel)]; exact Bool.false_ne_true) ?_⟩
    refine ⟨_, rfl, p, _, _, .str "high", rfl, rfl, SqT.of hp, rfl, rfl, _, rfl, iteN (by rw [sT _ _ (by decide +kernel)]; exact Bool.false_ne_true) ?_⟩
    refine ⟨_, rfl, p, _, _, .int b, rfl, rfl, SqT.of hp, rfl, _, _, rfl, rfl, b - 1, rfl, (by omega), (by omega), for_range (n := (b - 1).toNat) (fun i σ H2 => ∃ v, σ = [some (.ref p), some (.int k), some (.int z), some (.int (2 ^ (i + 1))), v] ∧ H2 = H) ⟨none, rfl, rfl⟩ (fun i σ H2 hi ⟨v, e1, e2⟩ => ?_) (fun σ H2 ⟨v, e1, e2⟩ => ?_)⟩
    · subst e1 e2
      refine ⟨_, rfl, _, _, rfl, rfl, mul2 _, some (.int (0 + i)), ?_, rfl⟩
      rw [Int.pow_succ (2 : Int) (i + 1)]
      rfl
    · subst e1 e2
      have e : (b - 1).toNat + 1 = b.toNat := by omega
      rw [e]
      refine ⟨_, rfl, p, _, _, .int a, rfl, rfl, SqT.of hp, rfl, _, rfl, _, _, rfl, rfl, mulS k0 (by omega), _, rfl, _, _, rfl, rfl, w0, _, rfl, _, _, rfl, rfl, mulS (by omega) (by omega), _, rfl, _, _, rfl, rfl, ⟨w0, Int.lt_of_le_of_lt w1 (by decide)⟩, q⟩
  | told ns =>
    obtain ⟨p, p2, rfl, hp, hq⟩ := ra
    obtain ⟨⟨l0, l1⟩, b1⟩ := rk
    have hl : (0 : Int) < ((ns.map V.int).length : Nat) := by rw [List.length_map]; omega
    refine ⟨_, rfl, p, _, _, .str "told", rfl, rfl, SqT.of hp, rfl, rfl, _, rfl, iteN (by rw [sT _ _ (by decide +kernel)]; exact Bool.false_ne_true) ?_⟩
    refine ⟨_, rfl, p, _, _, .str "told", rfl, rfl, SqT.of hp, rfl, rfl, _, rfl, iteY (sY _) ?_⟩
    refine ⟨_, rfl, p, _, _, .ref p2, rfl, rfl, SqT.of hp, rfl, _, rfl, _, rfl, p, _, _, .ref p2, rfl, rfl, SqT.of hp, rfl, p2, _, rfl, .inr (SqT.of hq), _, _, rfl, rfl, hl, p2, _, _, _, rfl, rfl, SqT.of hq, atI_getD (Int.emod_nonneg _ (by omega)) (by have := Int.emod_lt_of_pos k hl; rw [List.length_map] at this ⊢; exact this), _, rfl, _, _, rfl, rfl, (by omega), ?_⟩
    have q' : Q (.int (ns.getD (k % ns.length).toNat 0 % z)) H := q
    rw [List.length_map]
    exact q'
end S70
set_option Elab.async false
set_option linter.all false
set_option maxRecDepth 100000
set_option exponentiation.threshold 5000
namespace S70
open PySem L2 SC PyProof.Rows S40 Ly
theorem sc__law_told : FnScope ["_law_rule_here", "_law_size", "_law_many", "_law_limit", "_law_e"] ["_law_rule_here", "_law_size", "_law_many", "_law_limit"] (defScope (top 46)) := ⟨rfl, rfl, rfl, by decide +kernel, rfl, by decide +kernel, by decide +kernel⟩
theorem v__law_told : Vs ["_law_rule_here", "_law_size", "_law_many", "_law_limit", "_law_e"] (defScope (top 46)) := Vs.of (by decide +kernel)
theorem l__law_told : Ls ["_law_rule_here", "_law_size", "_law_many", "_law_limit", "_law_e"] (defScope (top 46)) := Ls.of sc__law_told.nd (by decide +kernel)
theorem g__law_told : Gs ["StrewError", "worst", "_law_word"] (defScope (top 46)) := Gs.of (by decide +kernel)
theorem ok__law_told {P : Program} {w : World} {K : PySem.W.Frag} {mg : Str → Option Value} {base : Heap} {f : Addr} {fd : FuncData} {cl : CN → Addr} (F : Fun K "_law_told" "_law_told" (top 46) f fd) (T : Tx K mg cl) (O_worst : Own P w K mg base true 6 "worst" ["rule", "size", "many", "limit"] (spWorst (cl .BadRule) (cl .BadSize) (cl .TooMany))) (O__law_word : Own P w K mg base false 1 "_law_word" ["_law_e"] (spWord K cl)) :
    FnOk P w K mg base (CX1 P w) true 7 f fd ["_law_rule_here", "_law_size", "_law_many", "_law_limit"] (spTold7) := by
  have S := sc__law_told
  have Vv := v__law_told
  have Lo := l__law_told
  have Gg := g__law_told
  refine F.ok S (fun vs H Q E h => ?_) (fun cdv A outer s H vs Q E hx hcx hh hr D h => ?_)
  · obtain ⟨v, z, mi, li, rfl, _⟩ := h; rfl
  obtain ⟨v, z, mi, li, rfl, pl, q1, q2, q3⟩ := h
  have h0 := hcx rfl
  refine ⟨_, (pss_one (tryx (j := 0) (i := 4) Gg Lo D h0 (fun E1 pn => (pss_one (ps_ret (cOwn (i := 1) Gg O_worst (hr.mono (by decide)) passX (pa_cons (vn Vv 0) (pa_cons (vn Vv 1) (pa_cons (vn Vv 2) (pa_cons (vn Vv 3) pa_nil)))))))) T.mStrewError (fun a o pn => (pss_one (ps_ret (cOwn (i := 2) Gg O__law_word (markR (hr.mono (by decide))) passN (pa_cons (vn Vv 4) pa_nil))))))), ?_⟩
  refine ⟨fun cls _ H1 => Same H H1 ∧ ∃ j C, cls = .ref C ∧ Wd K cl C j ∧ j < 5 ∧ ∀ H', Same H H' → Q (.str (nm j)) H', ?_, fun cls H1 ⟨s1, j, C, e1, W, hj, e2⟩ => ?_⟩
  · refine ⟨_, rfl, _, rfl, _, rfl, _, rfl, v, z, mi, li, rfl, pl, fun c H' s' => ⟨s', 0, _, rfl, T.wd0, by decide, q1 c⟩, fun c c2 H' s' => ⟨s', 2, _, rfl, T.wd2, by decide, q2 c c2⟩, fun r n many limit ra rk e1 e2 e3 h1 h2 h3 h4 h5 => ?_⟩
    obtain ⟨qa, qb⟩ := q3 r n many limit ra rk e1 e2 e3 h1 h2 h3 h4 h5
    exact ⟨fun w H' s' => ⟨s', 4, _, rfl, T.wd4, by decide, qa w⟩, qb⟩
  · refine ⟨C, e1, W.e, fun a o ha ho => ?_⟩
    exact ⟨_, rfl, a, o, C, j, rfl, upd_same, ho, W, hj, fun H' s2 => e2 H' (s1.trans ((Same.new ha _).trans s2))⟩
end S70
set_option Elab.async false
set_option linter.all false
set_option maxRecDepth 100000
set_option exponentiation.threshold 5000
namespace S70
open PySem L2 SC PyProof.Rows S40 Ly
theorem sc__law_ways : FnScope ["_law_rule_here", "_law_size", "_law_keys_here", "_law_taken", "_law_found", "_law_key", "_law_place"] ["_law_rule_here", "_law_size", "_law_keys_here"] (defScope (top 47)) := ⟨rfl, rfl, rfl, by decide +kernel, rfl, by decide +kernel, by decide +kernel⟩
theorem v__law_ways : Vs ["_law_rule_here", "_law_size", "_law_keys_here", "_law_taken", "_law_found", "_law_key", "_law_place"] (defScope (top 47)) := Vs.of (by decide +kernel)
theorem l__law_ways : Ls ["_law_rule_here", "_law_size", "_law_keys_here", "_law_taken", "_law_found", "_law_key", "_law_place"] (defScope (top 47)) := Ls.of sc__law_ways.nd (by decide +kernel)
theorem g__law_ways : Gs ["_law_home"] (defScope (top 47)) := Gs.of (by decide +kernel)
theorem ok__law_ways {P : Program} {w : World} {K : PySem.W.Frag} {mg : Str → Option Value} {base : Heap} {f : Addr} {fd : FuncData} {cl : CN → Addr} (F : Fun K "_law_ways" "_law_ways" (top 47) f fd) (T : Tx K mg cl) (O__law_home : Own P w K mg base true 1 "_law_home" ["_law_rule_here", "_law_key", "_law_size"] (spHomeL)) :
    FnOk P w K mg base (CX1 P w) true 2 f fd ["_law_rule_here", "_law_size", "_law_keys_here"] (spWaysF) := by
  have S := sc__law_ways
  have Vv := v__law_ways
  have Lo := l__law_ways
  have Gg := g__law_ways
  refine F.ok S (fun vs H Q E h => ?_) (fun cdv A outer s H vs Q E hx hcx hh hr D h => ?_)
  · obtain ⟨v, r, n, p, ks, rfl, _⟩ := h; rfl
  obtain ⟨v, r, n, p, ks, rfl, ⟨ra, rk, n2, n1⟩, n64, hp0, hb, hkl, q⟩ := h
  have hp := passesXE (E := E) D
  refine ⟨_, (pss_cons (set_v (i := 3) Lo (pe_op op_rep (pe_lst (pa_cons pe_bl pa_nil)) (vn Vv 1)))
    (pss_cons (set_v (i := 4) Lo pe_int)
    (pss_cons (ps_for hp (pi_list (vn Vv 2)) (tgt_v (i := 5) Lo)
    (pss_cons (set_v (i := 6) Lo (cOwn (i := 0) Gg O__law_home (hr.mono (by decide)) passX (pa_cons (vn Vv 0) (pa_cons (vn Vv 5) (pa_cons (vn Vv 1) pa_nil)))))
    (pss_cons (ps_while hp (pt_val (pe_ix ix_list (vn Vv 3) (vn Vv 6) (fun _ _ => rfl))) (pss_cons (set_v (i := 6) Lo (pe_op op_mod (pe_op op_add (vn Vv 6) pe_int) (vn Vv 1)))
    (pss_one (set_v (i := 4) Lo (pe_op op_add (vn Vv 4) pe_int)))))
    (pss_one (ps_asg pe_bl (pg_sub (vn Vv 3) (vn Vv 6) set_list))))))
    (pss_one (ps_ret (vn Vv 4)))))), ?_⟩
  have hz : 100000 < sizeLine := by decide
  have hh := hm_lt rk (show 0 < n by omega)
  refine sq4 fun t1 t2 t3 t4 DD a1 a2 a3 a4 aD => ?_
  refine seq_cut (fun σ' H' => ∃ L, σ' = [some v, some (.int n), some (.ref p), some (.ref L), none, none, none] ∧ Same H H' ∧ H L = none ∧ H' L = some (.lst (blT n []))) (fun U hU => ?_) ?_
  · subst a1
    refine ⟨(show 1 ≤ sizeLine by decide), fun l0 hl0 => ⟨_, rfl, l0, n, _, rfl, rfl, upd_same, by omega, by omega, ?_, fun L hL => ?_⟩⟩
    · rw [Int.toNat_natCast]; simp only [List.length_cons, List.length_nil]; omega
    rw [Int.toNat_natCast, rep_bl]
    have s0 := Same.new hl0 (.lst [.bl false])
    exact hU _ _ ⟨L, rfl, s0.trans (Same.new hL _), s0.free hL, upd_same⟩
  rintro σ' H1 ⟨L, rfl, s1, hLn, hL1⟩
  refine seq_cut (fun σ' H' => σ' = [some v, some (.int n), some (.ref p), some (.ref L), some (.int 0), none, none] ∧ H' = H1) (fun U hU => ?_) ?_
  · subst a2
    exact hU _ _ ⟨rfl, rfl⟩
  rintro σ' H2 ⟨rfl, rfl⟩
  refine seq_cut (fun σ' H' => InvWF (fun w x5 x6 => [some v, some (.int n), some (.ref p), some (.ref L), some w, x5, x6]) H L n (hms r n ks) ks.length σ' H') (fun U hU => ?_) ?_
  · subst a3
    refine ⟨_, rfl, p, rfl, ⟨_, SqL.of (s1 _ _ hp0)⟩, for_list (xs := ks.map V.int) (InvWF (fun w x5 x6 => [some v, some (.int n), some (.ref p), some (.ref L), some w, x5, x6]) H L n (hms r n ks)) ⟨_, _, rfl, s1, by rw [hL1]; rfl⟩ (fun i σ H2 _ ⟨_, _, _, sm, _⟩ => SqL.of (sm _ _ hp0)) ?_ (fun σ H' h => hU _ _ (by rw [List.length_map] at h; exact h))⟩
    rintro i y σ H3 hy ⟨x5, x6, rfl, sm, h3⟩
    obtain ⟨k, hk, rfl⟩ := ints_at hy
    have hi : i < ks.length := (List.getElem?_eq_some_iff.mp hk).1
    have hkb := hb k (List.mem_of_getElem? hk)
    have hx := hh k
    have hkh : (hms r n ks)[i]? = some (hm r n k) := by unfold hms; rw [List.getElem?_map, hk]; rfl
    have hml : (hms r n ks).length = ks.length := by unfold hms; rw [List.length_map]
    have hpl := fps_tlen (s := n) (l := hms r n ks) (i := i) (by omega)
    obtain ⟨t1, t2, t3⟩ := tt_spec (s := n) (p := hm r n k) (acc := fps n [] ((hms r n ks).take i)) hx (by omega)
    obtain ⟨f1, f2⟩ := fps_take (s := n) hkh
    generalize fps n [] ((hms r n ks).take i) = acc at hpl t1 t2 t3 f1 f2 h3
    generalize wts n [] ((hms r n ks).take i) = w0 at f2
    generalize tt n acc (hm r n k) = t at t1 t2 t3 f1 f2
    show tSeq _ _ _ _ _
    refine ⟨_, rfl, _, rfl, _, rfl, v, r, k, n, rfl, ra.same sm, rk, hkb, ⟨by omega, by omega⟩, ?_⟩
    rw [hm_eq rk (by omega)]
    refine ⟨InvWG (fun w pl => [some v, some (.int n), some (.ref p), some (.ref L), some w, some (.int k), some pl]) H3 n (hm r n k) t w0, ⟨t, 0, by rw [Nat.add_zero, Nat.add_zero, Nat.mod_eq_of_lt hx]; rfl, rfl, Nat.zero_le _, rfl⟩, ?_⟩
    rintro mm σ H4 ⟨u, rfl, rfl, hu, hmm⟩
    have hpn : (hm r n k + u) % n < n := Nat.mod_lt _ (by omega)
    refine ⟨_, rfl, _, rfl, L, _, _, _, rfl, rfl, SqL.of h3, atI_nat (blT_at hpn), _, rfl, ite2 (fun c => ?_) fun c => ?_⟩
    · have hut : u < t := by
        rcases Nat.lt_or_eq_of_le hu with z | z
        · exact z
        · rw [z] at c; exact absurd (S40.mem_iff.mp c) t2
      refine ⟨_, fun _ _ h => h, ?_⟩
      refine ⟨_, rfl, _, _, rfl, rfl, _, rfl, _, _, rfl, rfl, posJ (by omega), ?_⟩
      refine ⟨_, rfl, _, _, rfl, rfl, ?_⟩
      refine ⟨t - (u + 1), by omega, u + 1, ?_, rfl, by omega, rfl⟩
      rw [← SC.next_place]
      rfl
    · have hut : u = t := by
        rcases Nat.lt_or_eq_of_le hu with z | z
        · exact absurd (S40.mem_iff.mpr (t1 u z)) c
        · exact z
      subst hut
      refine ⟨_, rfl, _, rfl, L, _, _, (hm r n k + u) % n, rfl, rfl, h3, ixN_nat (by rw [blT_len]; exact hpn), ?_⟩
      refine ⟨_, _, by rw [f2], sm.upd hLn h3 _, ?_⟩
      rw [upd_same, blT_set hpn, f1]
  rintro σ' H3 ⟨x5, x6, rfl, sm, h3⟩
  subst a4 aD
  rw [List.take_of_length_le (by unfold hms; rw [List.length_map]; exact Nat.le_refl _)]
  exact ⟨_, rfl, q H3 sm⟩
end S70
set_option Elab.async false
set_option linter.all false
set_option maxRecDepth 100000
set_option exponentiation.threshold 5000
namespace S70
open PySem L2 SC PyProof.Rows S40 Ly
theorem sc__law_choices : FnScope ["_law_limit", "_law_many", "_law_found", "_law_key"] ["_law_limit", "_law_many"] (defScope (top 48)) := ⟨rfl, rfl, rfl, by decide +kernel, rfl, by decide +kernel, by decide +kernel⟩
theorem v__law_choices : Vs ["_law_limit", "_law_many", "_law_found", "_law_key"] (defScope (top 48)) := Vs.of (by decide +kernel)
theorem l__law_choices : Ls ["_law_limit", "_law_many", "_law_found", "_law_key"] (defScope (top 48)) := Ls.of sc__law_choices.nd (by decide +kernel)
theorem g__law_choices : Gs ["range"] (defScope (top 48)) := Gs.of (by decide +kernel)
theorem ok__law_choices {P : Program} {w : World} {K : PySem.W.Frag} {mg : Str → Option Value} {base : Heap} {f : Addr} {fd : FuncData} {cl : CN → Addr} (F : Fun K "_law_choices" "_law_choices" (top 48) f fd) (T : Tx K mg cl) :
    FnOk P w K mg base (CX1 P w) true 1 f fd ["_law_limit", "_law_many"] (spChoices) := by
  have S := sc__law_choices
  have Vv := v__law_choices
  have Lo := l__law_choices
  have Gg := g__law_choices
  refine F.ok S (fun vs H Q E h => ?_) (fun cdv A outer s H vs Q E hx hcx hh hr D h => ?_)
  · obtain ⟨limit, many, rfl, _⟩ := h; rfl
  obtain ⟨limit, many, rfl, hl9, hm9, q⟩ := h
  have hp := passesXE (E := E) D
  refine ⟨_, (pss_cons (set_v (i := 2) Lo (pe_lst (pa_cons (pe_lst pa_nil) pa_nil)))
    (pss_cons (ps_for hp (iR1 (i := 0) Gg T.nrange (pa_cons (vn Vv 0) pa_nil)) (tgt_v (i := 3) Lo)
    (pss_one (set_v (i := 2) Lo (pe_op op_cat (vn Vv 2) (cmp (Nc := ["_law_one", "_law_key", "_law_many"]) (caps := [none, some 3, some 1]) (j := 0) (N := ["_law_limit", "_law_many", "_law_found", "_law_key"]) (sc := defScope (top 48)) (Lc := ["len"]) ⟨rfl, by decide +kernel, by decide +kernel, by decide +kernel, rfl, by decide +kernel, by decide +kernel, rfl, rfl, by decide +kernel⟩ (pi_list (vn Vv 2)) (fun _ _ _ _ _ _ Vv Gg => (pf_one (pt_cmpR op_lt (cB (i := 0) Gg ((call_len_seqK (K := K) rfl)) T.nlen bt_len (pa_cons (vn Vv 0) pa_nil)) (vn Vv 2) (nomark _)))) (fun _ _ _ _ _ _ Vv Gg => (pe_op op_cat (vn Vv 0) (pe_lst (pa_cons (vn Vv 1) pa_nil)))))))))
    (pss_one (ps_ret (cmp (Nc := ["_law_one", "_law_many"]) (caps := [none, some 1]) (j := 0) (N := ["_law_limit", "_law_many", "_law_found", "_law_key"]) (sc := defScope (top 48)) (Lc := ["len"]) ⟨rfl, by decide +kernel, by decide +kernel, by decide +kernel, rfl, by decide +kernel, by decide +kernel, rfl, rfl, by decide +kernel⟩ (pi_list (vn Vv 2)) (fun _ _ _ _ _ _ Vv Gg => (pf_one (pt_cmpR op_eq (cB (i := 0) Gg ((call_len_seqK (K := K) rfl)) T.nlen bt_len (pa_cons (vn Vv 0) pa_nil)) (vn Vv 1) (nomark _)))) (fun _ _ _ _ _ _ Vv Gg => (vn Vv 0))))))), ?_⟩
  have hz : 100000 < sizeLine := by decide
  refine sq3 fun t1 t2 t3 DD a1 a2 a3 aD => ?_
  refine seq_cut (fun σ' H' => InvCh many (fun l x3 => [some (.int limit), some (.int many), some (.ref l), x3]) H 0 σ' H') (fun U hU => ?_) ?_
  · subst a1
    refine ⟨small (n := 0) (by decide), fun l0 hl0 => ⟨small (n := 1) (by decide), fun b hb => hU _ _ ⟨b, [l0], none, rfl, (Same.new hl0 _).trans (Same.new hb _), upd_same, rfl, fun i a x h1 h2 => ?_⟩⟩⟩
    have hi : i < 1 := (List.getElem?_eq_some_iff.mp h1).1
    have e : i = 0 := by omega
    subst e
    cases h1
    cases h2
    exact Same.new hb _ _ _ upd_same
  intro σ' H1 h1
  refine seq_cut (fun σ' H' => InvCh many (fun l x3 => [some (.int limit), some (.int many), some (.ref l), x3]) H limit σ' H') (fun U hU => ?_) ?_
  · subst a2
    obtain ⟨l1, as1, x1, rfl, hh1⟩ := id h1
    refine ⟨_, rfl, (limit : Int), rfl, by omega, by omega, ?_⟩
    rw [Int.toNat_natCast]
    refine for_range (n := limit) (InvCh many (fun l x3 => [some (.int limit), some (.int many), some (.ref l), x3]) H) h1 ?_ (fun σ H' h => hU _ _ h)
    rintro i σ H2 hi ⟨l, as, x3, rfl, sm, hl, hls⟩
    have hlen : as.length ≤ 512 := by
      rw [hls.1]
      exact Nat.le_trans (chF_len many i) (Nat.le_trans (Nat.pow_le_pow_right (by decide) (show i ≤ 9 by omega)) (by decide))
    have at_ : ∀ (j : Nat) (x : V), (as.map V.ref)[j]? = some x → ∃ a y, x = .ref a ∧ (chF many i)[j]? = some y ∧ H2 a = some (.lst (y.map V.int)) := fun j x hx => by
      rw [List.getElem?_map] at hx
      obtain ⟨a, ha, rfl⟩ := Option.map_eq_some_iff.mp hx
      obtain ⟨y, hy⟩ : ∃ y, (chF many i)[j]? = some y := ⟨_, List.getElem?_eq_getElem (by rw [← hls.1]; exact (List.getElem?_eq_some_iff.mp ha).1)⟩
      exact ⟨a, y, rfl, hy, hls.2 j a y ha hy⟩
    refine ⟨_, rfl, _, rfl, l, rfl, ⟨_, SqL.of hl⟩, fun D hD => comp_filterI (xs := as.map V.ref) (RCh H2 D (chF many i) (fun x => decide (x.length < many)) (fun x => x ++ [(i : Int)])) (fun j => decide (((chF many i).getD j []).length < many)) (SqL.of hl) hD (by rw [List.length_map]; omega) RCh.zero (fun _ _ _ _ _ _ h => h.mono) (fun j x H3 Q' hx s3 hQ => ?_) (fun j x ys H3 Q' hx hk s3 hD3 hR k => ?_) (fun j ys H3 hk hR => ?_) fun H3 ys s3 hD3 hR => ?_⟩
    · obtain ⟨a, y, rfl, hy, ha⟩ := at_ j x hx
      have e : decide ((((y.map V.int).length : Nat) : Int) < (many : Int)) = decide (((chF many i).getD j []).length < many) := by
        rw [List.getD_eq_getElem?_getD, hy, List.length_map]
        exact decide_eq_decide.mpr (by show _ ↔ y.length < many; omega)
      refine ⟨_, rfl, a, _, rfl, .inl (SqL.of (s3 _ _ ha)), _, rfl, _, _, rfl, rfl, _, rfl, ?_⟩
      rw [e]
      exact hQ
    · obtain ⟨a, y, rfl, hy, ha⟩ := at_ j x hx
      rw [List.getD_eq_getElem?_getD, hy] at hk
      have hyl : y.length < many := of_decide_eq_true hk
      refine ⟨_, rfl, _, rfl, small (n := 1) (by decide), fun p1 h1' => ⟨a, p1, _, _, rfl, rfl, Same.new h1' _ _ _ (s3 _ _ ha), upd_same, by rw [List.length_map]; show y.length + 1 ≤ sizeLine; omega, fun p2 h2 => ?_⟩⟩
      have ss := (Same.new h1' (.lst [.int (0 + (i : Int))])).trans (Same.new h2 (.lst (y.map V.int ++ [.int (0 + (i : Int))])))
      refine k _ _ ss (hR.step hy (decide_eq_true hyl) ss ?_ fun z => ?_)
      · rw [upd_same, List.map_append, Int.zero_add]
        rfl
      · rw [z, Same.new h1' _ _ _ hD3] at h2
        cases h2
    · by_cases c : j < (chF many i).length
      · obtain ⟨y, hy⟩ : ∃ y, (chF many i)[j]? = some y := ⟨_, List.getElem?_eq_getElem c⟩
        rw [List.getD_eq_getElem?_getD, hy] at hk
        exact hR.skip hy hk
      · obtain ⟨as', e, hl', hn'⟩ := hR
        exact ⟨as', e, by rw [List.take_of_length_le (by omega)] at hl' ⊢; exact hl', hn'⟩
    · obtain ⟨as', rfl, hls', hn'⟩ := hR
      rw [List.length_map, hls.1, List.take_length] at hls'
      have hlen' : as'.length ≤ 512 := by
        rw [hls'.1, List.length_map]
        have := List.length_filter_le (fun x => decide (x.length < many)) (chF many i)
        rw [← hls.1] at this
        omega
      refine ⟨l, D, _, _, rfl, rfl, s3 _ _ hl, hD3, by rw [List.length_map, List.length_map]; omega, fun p hp => ?_⟩
      rw [← List.map_append]
      exact ⟨p, as ++ as', _, rfl, sm.trans (s3.trans (Same.new hp _)), upd_same, ((hls.same s3).app hls').same (Same.new hp _)⟩
  rintro σ' H2 ⟨l, as, x3, rfl, sm, hl, hls⟩
  subst a3 aD
  have hlen : as.length ≤ 512 := by
    rw [hls.1]
    exact Nat.le_trans (chF_len many limit) (Nat.le_trans (Nat.pow_le_pow_right (by decide) hl9) (by decide))
  have at_ : ∀ (j : Nat) (x : V), (as.map V.ref)[j]? = some x → ∃ a y, x = .ref a ∧ (chF many limit)[j]? = some y ∧ H2 a = some (.lst (y.map V.int)) := fun j x hx => by
    rw [List.getElem?_map] at hx
    obtain ⟨a, ha, rfl⟩ := Option.map_eq_some_iff.mp hx
    obtain ⟨y, hy⟩ : ∃ y, (chF many limit)[j]? = some y := ⟨_, List.getElem?_eq_getElem (by rw [← hls.1]; exact (List.getElem?_eq_some_iff.mp ha).1)⟩
    exact ⟨a, y, rfl, hy, hls.2 j a y ha hy⟩
  refine ⟨_, rfl, l, rfl, ⟨_, SqL.of hl⟩, fun D hD => comp_filterI (xs := as.map V.ref) (RCh H2 D (chF many limit) (fun x => decide (x.length = many)) id) (fun j => decide (((chF many limit).getD j []).length = many)) (SqL.of hl) hD (by rw [List.length_map]; omega) RCh.zero (fun _ _ _ _ _ _ h => h.mono) (fun j x H3 Q' hx s3 hQ => ?_) (fun j x ys H3 Q' hx hk s3 hD3 hR k => ?_) (fun j ys H3 hk hR => ?_) fun H3 ys s3 hD3 hR => ?_⟩
  · obtain ⟨a, y, rfl, hy, ha⟩ := at_ j x hx
    have e : decide (V.int (((y.map V.int).length : Nat) : Int) = V.int (many : Int)) = decide (((chF many limit).getD j []).length = many) := by
      rw [List.getD_eq_getElem?_getD, hy, List.length_map]
      refine decide_eq_decide.mpr ⟨fun z => ?_, fun z => ?_⟩
      · have := V.int.inj z
        show y.length = many
        omega
      · have z' : y.length = many := z
        rw [z']
    refine ⟨_, rfl, a, _, rfl, .inl (SqL.of (s3 _ _ ha)), _, rfl, rfl, _, rfl, ?_⟩
    rw [e]
    exact hQ
  · obtain ⟨a, y, rfl, hy, ha⟩ := at_ j x hx
    rw [List.getD_eq_getElem?_getD, hy] at hk
    refine ⟨_, rfl, k _ _ (Same.refl _) (hR.step hy hk (Same.refl _) (s3 _ _ ha) fun z => ?_)⟩
    rw [z, hD] at ha
    cases ha
  · by_cases c : j < (chF many limit).length
    · obtain ⟨y, hy⟩ : ∃ y, (chF many limit)[j]? = some y := ⟨_, List.getElem?_eq_getElem c⟩
      rw [List.getD_eq_getElem?_getD, hy] at hk
      exact hR.skip hy hk
    · obtain ⟨as', e, hl', hn'⟩ := hR
      exact ⟨as', e, by rw [List.take_of_length_le (by omega)] at hl' ⊢; exact hl', hn'⟩
  · obtain ⟨as', rfl, hls', hn'⟩ := hR
    rw [List.length_map, hls.1, List.take_length, List.map_id] at hls'
    exact q D as' H3 (sm.trans s3) hD3 hls'
end S70
set_option Elab.async false
set_option linter.all false
set_option maxRecDepth 100000
set_option exponentiation.threshold 5000
namespace S70
open PySem L2 SC PyProof.Rows S40 Ly
theorem sc_law : FnScope ["_law_script", "_law_k", "_law_more", "_law_rule_here", "_law_size", "_law_limit", "_law_many", "_law_found", "_law_keys_here", "_law_far", "_law_same", "_law_some"] ["_law_script"] (defScope (top 49)) := ⟨rfl, rfl, rfl, by decide +kernel, rfl, by decide +kernel, by decide +kernel⟩
theorem v_law : Vs ["_law_script", "_law_k", "_law_more", "_law_rule_here", "_law_size", "_law_limit", "_law_many", "_law_found", "_law_keys_here", "_law_far", "_law_same", "_law_some"] (defScope (top 49)) := Vs.of (by decide +kernel)
theorem l_law : Ls ["_law_script", "_law_k", "_law_more", "_law_rule_here", "_law_size", "_law_limit", "_law_many", "_law_found", "_law_keys_here", "_law_far", "_law_same", "_law_some"] (defScope (top 49)) := Ls.of sc_law.nd (by decide +kernel)
theorem g_law : Gs ["range", "max", "min", "len", "_law_drawn", "_law_cell", "_law_rule", "_law_told", "isinstance", "tuple", "list", "sorted", "set", "all", "_law_ways", "_law_choices"] (defScope (top 49)) := Gs.of (by decide +kernel)
theorem ok_law {P : Program} {w : World} {K : PySem.W.Frag} {mg : Str → Option Value} {base : Heap} {f : Addr} {fd : FuncData} {cl : CN → Addr} (F : Fun K "law" "law" (top 49) f fd) (T : Tx K mg cl) (O__law_cell : Own P w K mg base true 1 "_law_cell" ["_law_script", "_law_k"] (spCell K)) (O__law_drawn : Own P w K mg base true 1 "_law_drawn" ["_law_cell_here", "_law_k"] (spDrawn)) (O__law_rule : Own P w K mg base true 1 "_law_rule" ["_law_more"] (spRuleL)) (O__law_told : Own P w K mg base true 7 "_law_told" ["_law_rule_here", "_law_size", "_law_many", "_law_limit"] (spTold7)) (O__law_ways : Own P w K mg base true 2 "_law_ways" ["_law_rule_here", "_law_size", "_law_keys_here"] (spWaysF)) (O__law_choices : Own P w K mg base true 1 "_law_choices" ["_law_limit", "_law_many"] (spChoices)) :
    FnOk P w K mg base (CX1 P w) true 8 f fd ["_law_script"] (spLaw K) := by
  have S := sc_law
  have Vv := v_law
  have Lo := l_law
  have Gg := g_law
  refine F.ok S (fun vs H Q E h => ?_) (fun cdv A outer s H vs Q E hx hcx hh hr D h => ?_)
  · obtain ⟨a, ns, rfl, _⟩ := h; rfl
  obtain ⟨a, ns, rfl, hS, hlen, q⟩ := h
  have hp := passesXE (E := E) D
  refine ⟨_, (pss_cons (ps_for hp (iR1 (i := 0) Gg T.nrange (pa_cons (cB (i := 1) Gg (call_max2 rfl) T.nmax bt_max (pa_cons pe_int (pa_cons (cB (i := 2) Gg (call_min2 rfl) T.nmin bt_min (pa_cons pe_int (pa_cons (cB (i := 3) Gg (call_len_seq) T.nlen bt_len (pa_cons (vn Vv 0) pa_nil)) pa_nil))) pa_nil))) pa_nil)) (tgt_v (i := 1) Lo)
    (pss_cons (set_v (i := 2) Lo (cOwn (i := 4) Gg O__law_drawn (hr.mono (by decide)) passX (pa_cons (cOwn (i := 5) Gg O__law_cell (hr.mono (by decide)) passX (pa_cons (vn Vv 0) (pa_cons (vn Vv 1) pa_nil))) (pa_cons (vn Vv 1) pa_nil))))
    (pss_cons (set_v (i := 3) Lo (cOwn (i := 6) Gg O__law_rule (hr.mono (by decide)) passX (pa_cons (vn Vv 2) pa_nil)))
    (pss_cons (set_v (i := 4) Lo (pe_op op_add pe_int (pe_op op_mod (pe_op op_fdivA (vn Vv 2) pe_int) pe_int)))
    (pss_cons (set_v (i := 5) Lo (pe_op op_mod (pe_op op_fdivA (vn Vv 2) pe_int) pe_int))
    (pss_cons (set_v (i := 6) Lo (pe_op op_mod (pe_op op_fdivA (vn Vv 2) pe_int) (pe_op op_add (cB (i := 2) Gg (call_min3 rfl) T.nmin bt_min (pa_cons (vn Vv 5) (pa_cons (pe_op op_sub (vn Vv 4) pe_int) (pa_cons pe_int pa_nil)))) pe_int)))
    (pss_cons (set_v (i := 7) Lo (cOwn (i := 7) Gg O__law_told (hr.mono (by decide)) passX (pa_cons (vn Vv 3) (pa_cons (vn Vv 4) (pa_cons (vn Vv 6) (pa_cons (vn Vv 5) pa_nil))))))
    (pss_cons (ps_if (PW.pt (pw_or (pt_not (pt_val (cB (i := 8) Gg (call_isi) T.nisinstance bt_isinstance (pa_cons (vn Vv 7) (pa_cons (nTy (i := 9) Gg T.ntuple bt_tuple) pa_nil))))) (pw_or1 (pt_not (pt_val (cB (i := 8) Gg (call_isi) T.nisinstance bt_isinstance (pa_cons (pe_ix ix_tup (vn Vv 7) pe_int (fun _ _ => rfl)) (pa_cons (nTy (i := 10) Gg T.nlist bt_list) pa_nil)))))))) (pss_one (ps_ret pe_bl)) pss_nil)
    (pss_cons (ps_if (pt_cmpR (op_neA hr.units) (vn Vv 7) (cOwn (i := 7) Gg O__law_told (hr.mono (by decide)) passX (pa_cons (vn Vv 3) (pa_cons (vn Vv 4) (pa_cons (vn Vv 6) (pa_cons (vn Vv 5) pa_nil))))) (nomark _)) (pss_one (ps_ret pe_bl)) pss_nil)
    (pss_cons (ps_asg (vn Vv 7) (pg_tup rfl (pgs_cons (tgt_v (i := 8) Lo) (pgs_cons (tgt_v (i := 9) Lo) pgs_nil))))
    (pss_cons (ps_if (PW.pt (pw_or (pt_cmpR (op_neL hr.units0) (vn Vv 8) (sSt (i := 11) (j := 12) Gg T.nsorted T.nset (vn Vv 8)) (nomark _)) (pw_or (pt_cmpR op_ne (cB (i := 3) Gg (call_len_seq) T.nlen bt_len (pa_cons (vn Vv 8) pa_nil)) (vn Vv 6) (nomark _)) (pw_or1 (pt_not (pt_val (cB (i := 13) Gg (call_all) T.nall bt_all (pa_cons (cmp (Nc := ["_law_key", "_law_limit"]) (caps := [none, some 5]) (j := 0) (N := ["_law_script", "_law_k", "_law_more", "_law_rule_here", "_law_size", "_law_limit", "_law_many", "_law_found", "_law_keys_here", "_law_far", "_law_same", "_law_some"]) (sc := defScope (top 49)) (Lc := []) ⟨rfl, by decide +kernel, by decide +kernel, by decide +kernel, rfl, by decide +kernel, by decide +kernel, rfl, rfl, by decide +kernel⟩ (pi_list (vn Vv 8)) (fun _ _ _ _ _ _ Vv Gg => pf_nil) (fun _ _ _ _ _ _ Vv Gg => (pe_chain op_le op_lt pe_int (vn Vv 0) (vn Vv 1)))) pa_nil)))))))) (pss_one (ps_ret pe_bl)) pss_nil)
    (pss_cons (ps_if (pt_cmpR op_ne (vn Vv 9) (cOwn (i := 14) Gg O__law_ways (hr.mono (by decide)) passX (pa_cons (vn Vv 3) (pa_cons (vn Vv 4) (pa_cons (vn Vv 8) pa_nil)))) (nomark _)) (pss_one (ps_ret pe_bl)) pss_nil)
    (pss_cons (ps_if (pt_cmpR op_ne (cB (i := 1) Gg (call_maxL rfl) T.nmax bt_max (pa_cons (cmp (Nc := ["_law_one", "_law_rule_here", "_law_size"]) (caps := [none, some 3, some 4]) (j := 0) (N := ["_law_script", "_law_k", "_law_more", "_law_rule_here", "_law_size", "_law_limit", "_law_many", "_law_found", "_law_keys_here", "_law_far", "_law_same", "_law_some"]) (sc := defScope (top 49)) (Lc := ["_law_ways"]) ⟨rfl, by decide +kernel, by decide +kernel, by decide +kernel, rfl, by decide +kernel, by decide +kernel, rfl, rfl, by decide +kernel⟩ (pi_list (cOwn (i := 15) Gg O__law_choices (hr.mono (by decide)) passX (pa_cons (vn Vv 5) (pa_cons (vn Vv 6) pa_nil)))) (fun _ _ _ _ _ _ Vv Gg => pf_nil) (fun _ _ _ _ _ _ Vv Gg => (cOwn (i := 0) Gg O__law_ways (hr.mono (by decide)) passN (pa_cons (vn Vv 1) (pa_cons (vn Vv 2) (pa_cons (vn Vv 0) pa_nil)))))) pa_nil)) (vn Vv 9) (nomark _)) (pss_one (ps_ret pe_bl)) pss_nil)
    (pss_cons (set_v (i := 10) Lo (pe_tup (pa_cons pe_str (pa_cons (pe_tup (pa_cons pe_int pa_nil)) pa_nil))))
    (pss_cons (ps_if (PW.pt (pw_or (pt_cmpR op_ne (pe_ix ix_tup (cOwn (i := 7) Gg O__law_told (hr.mono (by decide)) passX (pa_cons (vn Vv 10) (pa_cons pe_int (pa_cons pe_int (pa_cons pe_int pa_nil))))) pe_int (fun _ _ => rfl)) pe_int (nomark _)) (pw_or1 (pt_cmpR op_ne (cOwn (i := 7) Gg O__law_told (hr.mono (by decide)) passX (pa_cons (pe_tup (pa_cons pe_str (pa_cons pe_int (pa_cons pe_int pa_nil)))) (pa_cons pe_int (pa_cons pe_int (pa_cons pe_int pa_nil))))) pe_str (nomark _))))) (pss_one (ps_ret pe_bl)) pss_nil)
    (pss_cons (set_v (i := 11) Lo (pe_lst (pa_cons (pe_tup (pa_cons pe_non (pa_cons pe_int (pa_cons pe_int (pa_cons pe_int pa_nil))))) (pa_cons (pe_tup (pa_cons (vn Vv 3) (pa_cons pe_int (pa_cons pe_int (pa_cons pe_int pa_nil))))) (pa_cons (pe_tup (pa_cons (vn Vv 3) (pa_cons pe_int (pa_cons pe_int (pa_cons pe_int pa_nil))))) (pa_cons (pe_tup (pa_cons (vn Vv 3) (pa_cons pe_int (pa_cons pe_int (pa_cons pe_int pa_nil))))) pa_nil))))))
    (pss_cons (set_v (i := 11) Lo (pe_op op_cat (vn Vv 11) (pe_lst (pa_cons (pe_tup (pa_cons (vn Vv 3) (pa_cons pe_int (pa_cons pe_int (pa_cons pe_int pa_nil))))) (pa_cons (pe_tup (pa_cons (vn Vv 3) (pa_cons pe_int (pa_cons (pe_un un_neg pe_int) (pa_cons pe_int pa_nil))))) pa_nil)))))
    (pss_one (ps_if (pt_cmpR (op_neL hr.units0) (cmp (Nc := ["_law_one"]) (caps := [none]) (j := 0) (N := ["_law_script", "_law_k", "_law_more", "_law_rule_here", "_law_size", "_law_limit", "_law_many", "_law_found", "_law_keys_here", "_law_far", "_law_same", "_law_some"]) (sc := defScope (top 49)) (Lc := ["_law_told"]) ⟨rfl, by decide +kernel, by decide +kernel, by decide +kernel, rfl, by decide +kernel, by decide +kernel, rfl, rfl, by decide +kernel⟩ (pi_list (vn Vv 11)) (fun _ _ _ _ _ _ Vv Gg => pf_nil) (fun _ _ _ _ _ _ Vv Gg => (cOwn (i := 0) Gg O__law_told (hr.mono (by decide)) passN (pa_cons (pe_ix (ix_tupK (K := K) rfl) (vn Vv 0) pe_int (fun _ _ => rfl)) (pa_cons (pe_ix (ix_tupK (K := K) rfl) (vn Vv 0) pe_int (fun _ _ => rfl)) (pa_cons (pe_ix (ix_tupK (K := K) rfl) (vn Vv 0) pe_int (fun _ _ => rfl)) (pa_cons (pe_ix (ix_tupK (K := K) rfl) (vn Vv 0) pe_int (fun _ _ => rfl)) pa_nil))))))) (pe_op op_cat (pe_lst (pa_cons pe_str pa_nil)) (pe_op op_rep (pe_lst (pa_cons pe_str pa_nil)) pe_int)) (nomark _)) (pss_one (ps_ret pe_bl)) pss_nil)))))))))))))))))))
    (pss_one (ps_ret pe_bl))), ?_⟩
  have hz : 100000 < sizeLine := by decide
  obtain ⟨J0, J1⟩ := rngN ((ns.map V.int).length : Nat) 2 (by omega) (by omega)
  refine ⟨_, rfl, a, _, rfl, .inl hS, 2, _, rfl, 1, _, rfl, _, rfl, (by omega), (by omega), ?_⟩
  generalize (if (if (((ns.map V.int).length : Nat) : Int) < 2 then (((ns.map V.int).length : Nat) : Int) else 2) > 1 then (if (((ns.map V.int).length : Nat) : Int) < 2 then (((ns.map V.int).length : Nat) : Int) else 2) else 1) = J at J0 J1
  refine for_range (n := J.toNat) (Inv70 a H) ⟨_, _, _, _, _, _, _, _, _, _, _, rfl, Same.refl H⟩ ?_ (fun σ H2 _ => q H2)
  rintro i σ H2 hi ⟨v1, v2, v3, v4, v5, v6, v7, v8, v9, v10, v11, rfl, sH⟩
  show tSeq _ _ _ _ _
  refine sq17 fun t1 t2 t3 t4 t5 t6 t7 t8 t9 t10 t11 t12 t13 t14 t15 t16 t17 DD a1 a2 a3 a4 a5 a6 a7 a8 a9 a10 a11 a12 a13 a14 a15 a16 a17 aD => ?_
  refine seq_cut (fun σ' H' => ∃ m : Int, σ' = st70 a (some (.int (0 + (i : Int)))) (some (.int m)) v3 v4 v5 v6 v7 v8 v9 v10 v11 ∧ Same H H' ∧ 0 ≤ m ∧ m < 2 ^ 128) (fun U hU => ?_) ?_
  · subst a1
    exact ⟨_, rfl, _, rfl, a, ns, 0 + (i : Int), rfl, sH.seq hS, hlen, ⟨by omega, by omega⟩, fun c H3 s3 => ⟨_, rfl, c, 0 + (i : Int), rfl, fun m m0 m1 => hU _ _ ⟨m, rfl, sH.trans s3, m0, m1⟩⟩⟩
  rintro σ' H3 ⟨m, rfl, s3, m0, m1⟩
  refine seq_cut (fun σ' H' => ∃ v r, σ' = st70 a (some (.int (0 + (i : Int)))) (some (.int m)) (some v) v4 v5 v6 v7 v8 v9 v10 v11 ∧ Same H3 H' ∧ RlAt H' v r ∧ r.Ok) (fun U hU => ?_) ?_
  · subst a2
    exact ⟨_, rfl, m, rfl, m0, m1, fun v r H4 s4 ra rk => hU _ _ ⟨v, r, rfl, s4, ra, rk⟩⟩
  rintro σ' H4 ⟨v, r, rfl, s4, ra, rk⟩
  have sA := s3.trans s4
  clear s3 s4
  obtain ⟨n, hn⟩ : ∃ n : Nat, 2 + m / 8 % 7 = n := ⟨(2 + m / 8 % 7).toNat, by omega⟩
  obtain ⟨limit, hlm⟩ : ∃ n : Nat, m / 64 % 10 = n := ⟨(m / 64 % 10).toNat, by omega⟩
  have n2 : 2 ≤ n ∧ n ≤ 8 := by omega
  have l9 : limit ≤ 9 := by omega
  refine seq_cut (fun σ' H' => σ' = st70 a (some (.int (0 + (i : Int)))) (some (.int m)) (some v) (some (.int n)) v5 v6 v7 v8 v9 v10 v11 ∧ H' = H4) (fun U hU => ?_) ?_
  · subst a3
    exact ⟨_, rfl, _, _, rfl, rfl, divC (by decide) (by decide), _, _, rfl, rfl, posJ (by decide), _, _, rfl, rfl, hU _ _ ⟨by rw [← hn]; rfl, rfl⟩⟩
  rintro σ' H5 ⟨rfl, rfl⟩
  refine seq_cut (fun σ' H' => σ' = st70 a (some (.int (0 + (i : Int)))) (some (.int m)) (some v) (some (.int n)) (some (.int limit)) v6 v7 v8 v9 v10 v11 ∧ H' = H5) (fun U hU => ?_) ?_
  · subst a4
    exact ⟨_, rfl, _, _, rfl, rfl, divC (by decide) (by decide), _, _, rfl, rfl, posJ (by decide), hU _ _ ⟨by rw [← hlm]; rfl, rfl⟩⟩
  rintro σ' H6 ⟨rfl, rfl⟩
  refine seq_cut (fun σ' H' => ∃ many : Nat, σ' = st70 a (some (.int (0 + (i : Int)))) (some (.int m)) (some v) (some (.int n)) (some (.int limit)) (some (.int many)) v7 v8 v9 v10 v11 ∧ H' = H6 ∧ many ≤ limit ∧ many < n ∧ many ≤ 5) (fun U hU => ?_) ?_
  · subst a5
    refine ⟨_, rfl, _, _, rfl, rfl, divC (by decide) (by decide), _, rfl, _, rfl, _, _, rfl, rfl, (limit : Int), (n : Int) - 1, 5, rfl, fun mm h1 h2 h3 h4 => ?_⟩
    have hmm : 0 < mm + 1 := by omega
    have e0 := Int.emod_nonneg (m / 1024) (b := mm + 1) (by omega)
    have e1 := Int.emod_lt_of_pos (m / 1024) hmm
    obtain ⟨many, hmany⟩ : ∃ k : Nat, m / 1024 % (mm + 1) = k := ⟨(m / 1024 % (mm + 1)).toNat, by omega⟩
    exact ⟨_, _, rfl, rfl, _, _, rfl, rfl, posJ hmm, hU _ _ ⟨many, by rw [← hmany]; rfl, rfl, by omega, by omega, by omega⟩⟩
  rintro σ' H7 ⟨many, rfl, rfl, ml, mn, m5⟩
  have few := few9 (many := many) rk (show 0 < n by omega) l9
  have told : ∀ (H8 : Hp) (Qx : VK) (Ex : XK), Same H7 H8 → (∀ p l H' z ks, Same H8 H' → WorstAt r n many limit z ks → H' p = some (.tup [.ref l, .int (wod z : Nat)]) → H' l = some (.lst (ks.map V.int)) → Qx (.ref p) H') → spTold7 [v, .int n, .int many, .int limit] H8 Qx Ex := fun H8 Qx Ex s8 k => by
    have ra8 := ra.same s8
    refine ⟨v, n, many, limit, rfl, ra8.plain rk, fun z => tf (ra8.rule rk) z, fun _ z => absurd ⟨by omega, by omega, by omega, by omega, by omega, by omega⟩ z, fun r' n' m' l' ra' rk' e1 e2 e3 _ _ _ _ _ => ?_⟩
    have e4 := Rl.inj ra8 ra'
    have e1 : n' = n := by omega
    have e2 : m' = many := by omega
    have e3 : l' = limit := by omega
    subst e4 e1 e2 e3
    exact ⟨fun ⟨j, hj, ho⟩ => absurd (few j hj) (by omega), fun _ => k⟩
  refine seq_cut (fun σ' H' => ∃ fp fl z ks, σ' = st70 a (some (.int (0 + (i : Int)))) (some (.int m)) (some v) (some (.int n)) (some (.int limit)) (some (.int many)) (some (.ref fp)) v8 v9 v10 v11 ∧ Same H7 H' ∧ WorstAt r n many limit z ks ∧ H' fp = some (.tup [.ref fl, .int (wod z : Nat)]) ∧ H' fl = some (.lst (ks.map V.int))) (fun U hU => ?_) ?_
  · subst a6
    exact ⟨_, rfl, _, rfl, _, rfl, _, rfl, nilI (told _ _ _ (Same.refl _) fun p l H' z ks s' w hp hl => hU _ _ ⟨p, l, z, ks, rfl, s', w, hp, hl⟩)⟩
  rintro σ' H8 ⟨fp, fl, z, ks, rfl, s8, w, hfp, hfl⟩
  obtain ⟨kok, hdeal⟩ := worst_ok rk (by omega) ml w
  refine seq_cut (fun σ' H' => σ' = st70 a (some (.int (0 + (i : Int)))) (some (.int m)) (some v) (some (.int n)) (some (.int limit)) (some (.int many)) (some (.ref fp)) v8 v9 v10 v11 ∧ H' = H8) (fun U hU => ?_) ?_
  · subst a7
    exact ⟨_, rfl, _, _, _, _, rfl, (Kn.tup hfp).ty, kit_tuple .tup, _, rfl, iteF ⟨_, rfl, fp, _, _, _, rfl, rfl, SqT.of hfp, rfl, _, _, _, _, rfl, (Kn.lst hfl).ty, kit_list .lst, _, rfl, iteF (hU _ _ ⟨rfl, rfl⟩)⟩⟩
  rintro σ' H9 ⟨rfl, rfl⟩
  refine seq_cut (fun σ' H' => σ' = st70 a (some (.int (0 + (i : Int)))) (some (.int m)) (some v) (some (.int n)) (some (.int limit)) (some (.int many)) (some (.ref fp)) v8 v9 v10 v11 ∧ Same H9 H') (fun U hU => ?_) ?_
  · subst a8
    refine ⟨_, rfl, _, rfl, _, rfl, _, rfl, _, rfl, nilI (told _ _ _ s8 fun p l H' z' ks' s' w' hp hl => ?_)⟩
    obtain ⟨e1, e2⟩ := worst_one w w'
    subst e1 e2
    refine ⟨fp, p, _, _, rfl, rfl, .inr ⟨SqT.of (s' _ _ hfp), SqT.of hp⟩, rfl, fun j x y h1 h2 => ?_, _, rfl, iteF (hU _ _ ⟨rfl, s'⟩)⟩
    have hj : j < 2 := (List.getElem?_eq_some_iff.mp h1).1
    have hj2 : j = 0 ∨ j = 1 := by omega
    rcases hj2 with rfl | rfl
    · have h1 := Option.some.inj h1
      have h2 := Option.some.inj h2
      subst h1 h2
      exact .inr ⟨fl, l, _, _, rfl, rfl, .inl ⟨SqL.of (s' _ _ hfl), SqL.of hl⟩, rfl, fun j u u' h1 h2 => .inl ⟨Option.some.inj (h1.symm.trans h2), List.all_eq_true.mp (ints_flat ks) u (List.mem_of_getElem? h1)⟩⟩
    · have h1 := Option.some.inj h1
      have h2 := Option.some.inj h2
      subst h1 h2
      exact .inl ⟨rfl, rfl⟩
  rintro σ' H10 ⟨rfl, s10⟩
  have hfl10 := s10 _ _ hfl
  have ra10 := ra.same (s8.trans s10)
  refine seq_cut (fun σ' H' => σ' = st70 a (some (.int (0 + (i : Int)))) (some (.int m)) (some v) (some (.int n)) (some (.int limit)) (some (.int many)) (some (.ref fp)) (some (.ref fl)) (some (.int (wod z : Nat))) v10 v11 ∧ H' = H10) (fun U hU => ?_) ?_
  · subst a9
    exact ⟨_, rfl, fp, _, rfl, SqT.of (s10 _ _ hfp), rfl, _, _, rfl, _, _, rfl, rfl, hU _ _ ⟨rfl, rfl⟩⟩
  rintro σ' H11 ⟨rfl, rfl⟩
  refine seq_cut (fun σ' H' => σ' = st70 a (some (.int (0 + (i : Int)))) (some (.int m)) (some v) (some (.int n)) (some (.int limit)) (some (.int many)) (some (.ref fp)) (some (.ref fl)) (some (.int (wod z : Nat))) v10 v11 ∧ Same H11 H') (fun U hU => ?_) ?_
  · subst a10
    refine ⟨_, rfl, _, rfl, fl, ks, rfl, SqL.of hfl10, kok.lt, fun k hk => by have := kok.bd k hk; omega, by rw [kok.len]; omega, fun l hl => ⟨fl, l, _, _, rfl, rfl, SqL.of (Same.new hl _ _ _ hfl10), SqL.of upd_same, ints_flat _, ints_flat _, _, rfl, ?_⟩⟩
    rw [eqVs_refl (ints_flat _)]
    refine iteF ⟨_, rfl, fl, _, rfl, .inl (SqL.of (Same.new hl _ _ _ hfl10)), _, rfl, rfl, _, rfl, iteNS (by rw [List.length_map, kok.len]) ?_⟩
    have hfl' := Same.new hl (.lst (ks.map V.int)) _ _ hfl10
    refine ⟨_, rfl, fl, rfl, ⟨_, SqL.of hfl'⟩, fun D hD => comp_list (xs := ks.map V.int) (fun _ => .bl true) (SqL.of hfl') hD (by rw [List.length_map, kok.len]; omega) (fun x ys Q' hx hQ => ?_) ?_⟩
    · obtain ⟨k, hk, rfl⟩ := List.mem_map.mp hx
      have hkb := kok.bd k hk
      refine ⟨_, rfl, _, _, rfl, rfl, _, rfl, ?_⟩
      rw [decide_eq_true hkb.1]
      refine iteT ⟨_, rfl, _, _, rfl, rfl, ?_⟩
      show Q' (V.bl (decide (k < (limit : Int)))) _
      rw [decide_eq_true hkb.2]
      exact hQ
    · refine ⟨D, ks.map fun _ => true, rfl, SqL.of (by rw [upd_same, List.map_map, List.map_map]; rfl), _, rfl, ?_⟩
      rw [show (ks.map fun _ => true).all id = true by rw [List.all_map]; exact List.all_eq_true.mpr fun _ _ => rfl]
      exact iteF (hU _ _ ⟨rfl, (Same.new hl _).trans (Same.new hD _)⟩)
  rintro σ' H12 ⟨rfl, s12⟩
  have hfl12 := s12 _ _ hfl10
  have ra12 := ra10.same s12
  have ndk : ks.Nodup := kok.lt.imp fun h => by omega
  have hbk : ∀ k ∈ ks, 0 ≤ k ∧ k ≤ 999999 := fun k hk => by have := kok.bd k hk; omega
  refine seq_cut (fun σ' H' => σ' = st70 a (some (.int (0 + (i : Int)))) (some (.int m)) (some v) (some (.int n)) (some (.int limit)) (some (.int many)) (some (.ref fp)) (some (.ref fl)) (some (.int (wod z : Nat))) v10 v11 ∧ Same H12 H') (fun U hU => ?_) ?_
  · subst a11
    refine ⟨_, rfl, _, rfl, _, rfl, _, rfl, v, r, n, fl, ks, rfl, ⟨ra12, rk, by omega, by omega⟩, by omega, hfl12, hbk, by rw [kok.len]; omega, fun H' s' => ⟨rfl, _, rfl, iteNS (by rw [wts_wod rk (by omega) (by rw [kok.len]; omega) ndk hbk, hdeal]) (hU _ _ ⟨rfl, s'⟩)⟩⟩
  rintro σ' H13 ⟨rfl, s13⟩
  have ra13 := ra12.same s13
  refine seq_cut (fun σ' H' => σ' = st70 a (some (.int (0 + (i : Int)))) (some (.int m)) (some v) (some (.int n)) (some (.int limit)) (some (.int many)) (some (.ref fp)) (some (.ref fl)) (some (.int (wod z : Nat))) v10 v11 ∧ Same H13 H') (fun U hU => ?_) ?_
  · subst a12
    refine ⟨_, rfl, _, rfl, nilI ⟨limit, many, rfl, by omega, by omega, fun l as H' s' hl hls => ?_⟩⟩
    have chk : ∀ x ∈ (chF many limit).filter (fun x => decide (x.length = many)), KeysOk r n many limit x := fun x hx => by
      obtain ⟨h1, h2⟩ := List.mem_filter.mp hx
      obtain ⟨h3, h4, _⟩ := chF_mem.mp h1
      exact ⟨h3, h4, of_decide_eq_true h2⟩
    have own : ks ∈ (chF many limit).filter (fun x => decide (x.length = many)) := List.mem_filter.mpr ⟨chF_mem.mpr ⟨kok.lt, kok.bd, by rw [kok.len]; exact Nat.le_refl _⟩, decide_eq_true kok.len⟩
    have clen : ((chF many limit).filter (fun x => decide (x.length = many))).length ≤ 512 := Nat.le_trans (List.length_filter_le _ _) (Nat.le_trans (chF_len many limit) (Nat.le_trans (Nat.pow_le_pow_right (by decide) l9) (by decide)))
    generalize (chF many limit).filter (fun x => decide (x.length = many)) = CH at hls chk own clen
    have wv : ∀ x, KeysOk r n many limit x → wts n [] (hms r n x) = wod (deal n (hm r n) x) := fun x hx => wts_wod rk (by omega) (by rw [hx.len]; omega) (hx.lt.imp fun h => by omega) (fun k hk => by have := hx.bd k hk; omega)
    refine ⟨l, rfl, ⟨_, SqL.of hl⟩, fun D hD => comp_listG (xs := as.map V.ref) (fun j y _ => ∃ x, CH[j]? = some x ∧ y = .int (wts n [] (hms r n x) : Nat)) (SqL.of hl) hD (by rw [List.length_map, hls.1]; omega) (fun _ _ _ _ _ h => h) (fun _ _ _ _ _ _ h => h) (fun j x H2 Q' hx sm hQ => ?_) fun H2 ys s2 hys hyl hR => ?_⟩
    · rw [List.getElem?_map] at hx
      obtain ⟨c, hc, rfl⟩ := Option.map_eq_some_iff.mp hx
      obtain ⟨y, hy⟩ : ∃ y, CH[j]? = some y := ⟨_, List.getElem?_eq_getElem (by rw [← hls.1]; exact (List.getElem?_eq_some_iff.mp hc).1)⟩
      have ky := chk y (List.mem_of_getElem? hy)
      exact ⟨_, rfl, _, rfl, _, rfl, v, r, n, c, y, rfl, ⟨ra13.same (s'.trans sm), rk, by omega, by omega⟩, by omega, sm _ _ (hls.2 j c y hc hy), fun k hk => by have := ky.bd k hk; omega, by rw [ky.len]; omega, fun H3 s3 => hQ _ _ s3 ⟨y, hy, rfl⟩⟩
    rw [List.length_map, hls.1] at hyl
    have ey : ys = (CH.map fun x => ((wts n [] (hms r n x) : Nat) : Int)).map V.int := by
      refine List.ext_getElem? fun j => ?_
      by_cases hj : j < CH.length
      · obtain ⟨y, hy⟩ : ∃ y, ys[j]? = some y := ⟨_, List.getElem?_eq_getElem (by omega)⟩
        obtain ⟨x, hx, e⟩ := hR j y hy
        rw [hy, e, List.getElem?_map, List.getElem?_map, hx]
        rfl
      · rw [List.getElem?_eq_none (by omega), List.getElem?_eq_none (by rw [List.length_map, List.length_map]; omega)]
    rw [ey] at hys
    refine ⟨D, _, rfl, SqL.of hys, (fun e => by rw [List.map_eq_nil_iff] at e; rw [e] at own; cases own), fun mx hmx hall => ⟨_, rfl, rfl, _, rfl, iteNS ?_ (hU _ _ ⟨rfl, s'.trans s2⟩)⟩⟩
    obtain ⟨x, hx, e⟩ := List.mem_map.mp hmx
    have h1 : wts n [] (hms r n x) ≤ wod z := by rw [wv x (chk x hx)]; exact worst_best rk (by omega) ml w (chk x hx)
    have h2 := hall _ (List.mem_map.mpr ⟨ks, own, rfl⟩)
    rw [wv ks kok, hdeal] at h2
    exact congrArg V.int (by omega)
  rintro σ' H14 ⟨rfl, s14⟩
  have sB := sA.trans (s8.trans (s10.trans (s12.trans (s13.trans s14))))
  have ra14 := ra13.same s14
  refine seq_cut (fun σ' H' => ∃ sp sq, σ' = st70 a (some (.int (0 + (i : Int)))) (some (.int m)) (some v) (some (.int n)) (some (.int limit)) (some (.int many)) (some (.ref fp)) (some (.ref fl)) (some (.int (wod z : Nat))) (some (.ref sp)) v11 ∧ Same H14 H' ∧ H' sp = some (.tup [.str "told", .ref sq]) ∧ H' sq = some (.tup [.int 3])) (fun U hU => ?_) ?_
  · subst a13
    exact ⟨small (n := 1) (by decide), fun sq hsq => ⟨small (n := 2) (by decide), fun sp hsp => hU _ _ ⟨sp, sq, rfl, (Same.new hsq _).trans (Same.new hsp _), upd_same, Same.new hsp _ _ _ upd_same⟩⟩⟩
  rintro σ' H15 ⟨sp, sq, rfl, s15, hsp, hsq⟩
  refine seq_cut (fun σ' H' => σ' = st70 a (some (.int (0 + (i : Int)))) (some (.int m)) (some v) (some (.int n)) (some (.int limit)) (some (.int many)) (some (.ref fp)) (some (.ref fl)) (some (.int (wod z : Nat))) (some (.ref sp)) v11 ∧ Same H15 H') (fun U hU => ?_) ?_
  · subst a14
    have rt : RlAt H15 (.ref sp) (.told [3]) := ⟨sp, sq, rfl, hsp, hsq⟩
    have rtk : (Rl.told [3]).Ok := ⟨⟨by decide, by decide⟩, fun x hx => by rw [List.mem_singleton] at hx; omega⟩
    refine ⟨_, rfl, .ref sp, 64, 40, 64, rfl, rt.plain rtk, fun z => tf (rt.rule rtk) z, fun _ z => absurd (by decide) z, fun r' n' m' l' ra' rk' e1 e2 e3 _ _ _ _ _ => ?_⟩
    have e4 := Rl.inj rt ra'
    have e1 : n' = 64 := by omega
    have e2 : m' = 40 := by omega
    have e3 : l' = 64 := by omega
    subst e4 e1 e2 e3
    refine ⟨fun ⟨j, hj, ho⟩ => absurd (few3 j hj) (by omega), fun _ p l H' z' ks' s' w' hp hl => ?_⟩
    refine ⟨p, _, _, .int (wod z' : Nat), rfl, rfl, SqT.of hp, rfl, rfl, _, rfl, iteNS (by rw [told780 w']; rfl) ?_⟩
    refine ⟨small (n := 3) (by decide), fun tp htp => ?_⟩
    have rt2 : RlAt (upd H' tp (.tup [.str "times", .int 1, .int 0])) (.ref tp) (.times 1 0) := ⟨tp, rfl, upd_same⟩
    have rtk2 : (Rl.times 1 0).Ok := ⟨⟨by decide, by decide⟩, by decide, by decide⟩
    refine ⟨.ref tp, 32, 12, 32, rfl, rt2.plain rtk2, fun z => tf (rt2.rule rtk2) z, fun _ z => absurd (by decide) z, fun r' n' m' l' ra' rk' e1 e2 e3 _ _ _ _ _ => ?_⟩
    have e4 := Rl.inj rt2 ra'
    have e1 : n' = 32 := by omega
    have e2 : m' = 12 := by omega
    have e3 : l' = 32 := by omega
    subst e4 e1 e2 e3
    exact ⟨fun _ H'' s'' => ⟨rfl, _, rfl, iteNS rfl (hU _ _ ⟨rfl, s'.trans ((Same.new htp _).trans s'')⟩)⟩, fun few => absurd many1 fun ⟨j, hj, ho⟩ => absurd (few j hj) (by omega)⟩
  rintro σ' H16 ⟨rfl, s16⟩
  have ra16 := ra14.same (s15.trans s16)
  have sC := sB.trans (s15.trans s16)
  refine seq_cut (fun σ' H' => ∃ l p1 p2 p3 p4, σ' = st70 a (some (.int (0 + (i : Int)))) (some (.int m)) (some v) (some (.int n)) (some (.int limit)) (some (.int many)) (some (.ref fp)) (some (.ref fl)) (some (.int (wod z : Nat))) (some (.ref sp)) (some (.ref l)) ∧ Same H16 H' ∧ H' l = some (.lst [.ref p1, .ref p2, .ref p3, .ref p4]) ∧ Tp H' v 0 (.ref p1) ∧ Tp H' v 1 (.ref p2) ∧ Tp H' v 2 (.ref p3) ∧ Tp H' v 3 (.ref p4)) (fun U hU => ?_) ?_
  · subst a15
    refine ⟨small (n := 4) (by decide), fun p1 h1 => ⟨_, rfl, small (n := 4) (by decide), fun p2 h2 => ⟨_, rfl, small (n := 4) (by decide), fun p3 h3 => ⟨_, rfl, small (n := 4) (by decide), fun p4 h4 => ⟨small (n := 4) (by decide), fun l hl => ?_⟩⟩⟩⟩⟩
    have s4 := Same.new hl (.lst [.ref p1, .ref p2, .ref p3, .ref p4])
    have s3 := (Same.new h4 (.tup [v, .int 8, .int 3, .int 2])).trans s4
    have s2 := (Same.new h3 (.tup [v, .int 8, .int 8, .int 9])).trans s3
    have s1 := (Same.new h2 (.tup [v, .int 1, .int 0, .int 4])).trans s2
    exact hU _ _ ⟨l, p1, p2, p3, p4, rfl, (Same.new h1 _).trans s1, upd_same, ⟨⟨p1, _, _, _, _, rfl, s1 _ _ upd_same, .inl ⟨rfl, rfl⟩⟩⟩, ⟨⟨p2, _, _, _, _, rfl, s2 _ _ upd_same, .inr ⟨by decide, rfl, by decide⟩⟩⟩, ⟨⟨p3, _, _, _, _, rfl, s3 _ _ upd_same, .inr ⟨by decide, rfl, by decide⟩⟩⟩, ⟨⟨p4, _, _, _, _, rfl, s4 _ _ upd_same, .inr ⟨by decide, rfl, by decide⟩⟩⟩⟩
  rintro σ' H17 ⟨l, p1, p2, p3, p4, rfl, s17, hl17, b1, b2, b3, b4⟩
  refine seq_cut (fun σ' H' => ∃ l p5 p6, σ' = st70 a (some (.int (0 + (i : Int)))) (some (.int m)) (some v) (some (.int n)) (some (.int limit)) (some (.int many)) (some (.ref fp)) (some (.ref fl)) (some (.int (wod z : Nat))) (some (.ref sp)) (some (.ref l)) ∧ Same H17 H' ∧ H' l = some (.lst [.ref p1, .ref p2, .ref p3, .ref p4, .ref p5, .ref p6]) ∧ Tp H' v 4 (.ref p5) ∧ Tp H' v 5 (.ref p6)) (fun U hU => ?_) ?_
  · subst a16
    refine ⟨_, rfl, _, rfl, small (n := 4) (by decide), fun p5 h5 => ⟨_, rfl, _, rfl, small (n := 4) (by decide), fun p6 h6 => ⟨small (n := 2) (by decide), fun l2 hl2 => ?_⟩⟩⟩
    have s3 := Same.new hl2 (.lst [.ref p5, .ref p6])
    have s2 := (Same.new h6 (.tup [v, .int 8, .int (-1), .int 4])).trans s3
    have s1 := (Same.new h5 (.tup [v, .int 8, .int 3, .int 65])).trans s2
    refine ⟨l, l2, _, _, rfl, rfl, s1 _ _ hl17, upd_same, small (n := 6) (by decide), fun l3 hl3 => ?_⟩
    have s4 := Same.new hl3 (.lst [.ref p1, .ref p2, .ref p3, .ref p4, .ref p5, .ref p6])
    exact hU _ _ ⟨l3, p5, p6, rfl, s1.trans s4, upd_same, ⟨⟨p5, _, _, _, _, rfl, s4 _ _ (s2 _ _ upd_same), .inr ⟨by decide, rfl, by decide⟩⟩⟩, ⟨⟨p6, _, _, _, _, rfl, s4 _ _ (s3 _ _ upd_same), .inr ⟨by decide, rfl, by decide⟩⟩⟩⟩
  rintro σ' H18 ⟨l3, p5, p6, rfl, s18, hl18, b5, b6⟩
  subst a17 aD
  have tps : ∀ (j : Nat) (x : V), [V.ref p1, .ref p2, .ref p3, .ref p4, .ref p5, .ref p6][j]? = some x → Tp H18 v j x := fun j x hx => by
    have mv : ∀ {j x}, Tp H17 v j x → Tp H18 v j x := fun ⟨⟨p, v0, z, mi, li, e, hp, h⟩⟩ => ⟨⟨p, v0, z, mi, li, e, s18 _ _ hp, h⟩⟩
    have hj : j < 6 := (List.getElem?_eq_some_iff.mp hx).1
    have h6 : j = 0 ∨ j = 1 ∨ j = 2 ∨ j = 3 ∨ j = 4 ∨ j = 5 := by omega
    rcases h6 with rfl | rfl | rfl | rfl | rfl | rfl <;> cases hx
    · exact mv b1
    · exact mv b2
    · exact mv b3
    · exact mv b4
    · exact b5
    · exact b6
  have ra18 := ra16.same (s17.trans s18)
  refine ⟨_, rfl, l3, rfl, ⟨_, SqL.of hl18⟩, fun D hD => comp_listG (xs := [V.ref p1, .ref p2, .ref p3, .ref p4, .ref p5, .ref p6]) (fun j y _ => y = badW j) (SqL.of hl18) hD (by simp) (fun _ _ _ _ _ h => h) (fun _ _ _ _ _ _ h => h) (fun j x H2 Q' hx sm hQ => ?_) fun H2 ys s2 hys hyl hR => ?_⟩
  · obtain ⟨p, v0, z0, mi, li, rfl, hp, hb⟩ := (tps j x hx).ex
    have hp2 := sm _ _ hp
    exact ⟨_, rfl, p, _, _, _, rfl, rfl, SqT.of hp2, rfl, _, rfl, p, _, _, _, rfl, rfl, SqT.of hp2, rfl, _, rfl, p, _, _, _, rfl, rfl, SqT.of hp2, rfl, _, rfl, p, _, _, _, rfl, rfl, SqT.of hp2, rfl, nilI (bad7 (ra18.same sm) rk hb fun H' s' => hQ _ _ s' rfl)⟩
  have ey : ys = [.str "BadRule", .str "BadSize", .str "BadSize", .str "BadSize", .str "BadSize", .str "BadSize"] := by
    refine List.ext_getElem? fun j => ?_
    have hyl6 : ys.length = 6 := hyl
    by_cases hj : j < 6
    · obtain ⟨y, hy⟩ : ∃ y, ys[j]? = some y := ⟨_, List.getElem?_eq_getElem (by omega)⟩
      rw [hy, hR j y hy]
      have h6 : j = 0 ∨ j = 1 ∨ j = 2 ∨ j = 3 ∨ j = 4 ∨ j = 5 := by omega
      rcases h6 with rfl | rfl | rfl | rfl | rfl | rfl <;> rfl
    · rw [List.getElem?_eq_none (by omega), List.getElem?_eq_none (by simp; omega)]
  rw [ey] at hys
  refine ⟨(show 1 ≤ sizeLine by decide), fun q1 hq1 => ⟨(show 1 ≤ sizeLine by decide), fun q2 hq2 => ?_⟩⟩
  refine ⟨q2, 5, _, rfl, rfl, upd_same, by decide, by decide, by decide, fun q3 hq3 => ⟨q1, q3, [V.str "BadRule"], _, rfl, rfl, ?_, upd_same, small (n := 6) (by decide), fun q4 hq4 => ⟨D, q4, [.str "BadRule", .str "BadSize", .str "BadSize", .str "BadSize", .str "BadSize", .str "BadSize"], _, rfl, rfl, SqL.of ?_, SqL.of upd_same, rfl, rfl, _, rfl, ?_⟩⟩⟩
  · exact Same.new hq3 _ _ _ (Same.new hq2 _ _ _ upd_same)
  · exact Same.new hq4 _ _ _ (Same.new hq3 _ _ _ (Same.new hq2 _ _ _ (Same.new hq1 _ _ _ hys)))
  · have en : (!eqVs [V.str "BadRule", .str "BadSize", .str "BadSize", .str "BadSize", .str "BadSize", .str "BadSize"] ([V.str "BadRule"] ++ (List.replicate (Int.toNat 5) [V.str "BadSize"]).flatten)) = false := by decide +kernel
    rw [en]
    refine ⟨_, _, _, _, _, _, _, _, _, _, _, rfl, ?_⟩
    exact sC.trans (s17.trans (s18.trans (s2.trans ((Same.new hq1 _).trans ((Same.new hq2 _).trans ((Same.new hq3 _).trans (Same.new hq4 _)))))))
end S70
set_option Elab.async false
set_option linter.all false
set_option maxRecDepth 100000
set_option exponentiation.threshold 5000
namespace S70
open PySem L2 SC PyProof.Rows
set_option maxHeartbeats 0 in
theorem all_mk {l : PySem.W.OpenLaw} {w : World} {K : PySem.W.Frag} {h : Heap} {mg : Str → Option Value} {fa c_StrewError c_BadRule c_BadKey c_BadSize c_Full c_TooMany f_power f_is_whole f_is_times_rule f_is_high_rule f_is_told_rule f_is_rule f_check_rule f_check_key f_check_keys f_check_size f_check_count f_reckon_home f_chains f_dealt_further f_all_dealings f_ways_of_dealing f_worst f__law_cell f__law_drawn f__law_word f__law_rule f__law_home f__law_told f__law_ways f__law_choices f_law : Addr} (X : K.In h) (G : h.Ns mainGlobals mg) (hfa : mg "law" = some (.ref fa))
    {od_power an_power od_is_whole an_is_whole od_is_times_rule an_is_times_rule od_is_high_rule an_is_high_rule od_is_told_rule an_is_told_rule od_is_rule an_is_rule od_check_rule an_check_rule od_check_key an_check_key od_check_keys an_check_keys od_check_size an_check_size od_check_count an_check_count od_reckon_home an_reckon_home od_chains an_chains od_dealt_further an_dealt_further od_all_dealings an_all_dealings od_ways_of_dealing an_ways_of_dealing od_worst an_worst od__law_cell an__law_cell od__law_drawn an__law_drawn od__law_word an__law_word od__law_rule an__law_rule od__law_home an__law_home od__law_told an__law_told od__law_ways an__law_ways od__law_choices an__law_choices od_law an_law : Option Addr} {sl_power sl_is_whole sl_is_times_rule sl_is_high_rule sl_is_told_rule sl_is_rule sl_check_rule sl_check_key sl_check_keys sl_check_size sl_check_count sl_reckon_home sl_chains sl_dealt_further sl_all_dealings sl_ways_of_dealing sl_worst sl__law_cell sl__law_drawn sl__law_word sl__law_rule sl__law_home sl__law_told sl__law_ways sl__law_choices sl_law : Array (Option Value)} {oc_power kV_power dc_power pm_power cd_power ct_power oc_is_whole kV_is_whole dc_is_whole pm_is_whole cd_is_whole ct_is_whole oc_is_times_rule kV_is_times_rule dc_is_times_rule pm_is_times_rule cd_is_times_rule ct_is_times_rule oc_is_high_rule kV_is_high_rule dc_is_high_rule pm_is_high_rule cd_is_high_rule ct_is_high_rule oc_is_told_rule kV_is_told_rule dc_is_told_rule pm_is_told_rule cd_is_told_rule ct_is_told_rule oc_is_rule kV_is_rule dc_is_rule pm_is_rule cd_is_rule ct_is_rule oc_check_rule kV_check_rule dc_check_rule pm_check_rule cd_check_rule ct_check_rule oc_check_key kV_check_key dc_check_key pm_check_key cd_check_key ct_check_key oc_check_keys kV_check_keys dc_check_keys pm_check_keys cd_check_keys ct_check_keys oc_check_size kV_check_size dc_check_size pm_check_size cd_check_size ct_check_size oc_check_count kV_check_count dc_check_count pm_check_count cd_check_count ct_check_count oc_reckon_home kV_reckon_home dc_reckon_home pm_reckon_home cd_reckon_home ct_reckon_home oc_chains kV_chains dc_chains pm_chains cd_chains ct_chains oc_dealt_further kV_dealt_further dc_dealt_further pm_dealt_further cd_dealt_further ct_dealt_further oc_all_dealings kV_all_dealings dc_all_dealings pm_all_dealings cd_all_dealings ct_all_dealings oc_ways_of_dealing kV_ways_of_dealing dc_ways_of_dealing pm_ways_of_dealing cd_ways_of_dealing ct_ways_of_dealing oc_worst kV_worst dc_worst pm_worst cd_worst ct_worst oc__law_cell kV__law_cell dc__law_cell pm__law_cell cd__law_cell ct__law_cell oc__law_drawn kV__law_drawn dc__law_drawn pm__law_drawn cd__law_drawn ct__law_drawn oc__law_word kV__law_word dc__law_word pm__law_word cd__law_word ct__law_word oc__law_rule kV__law_rule dc__law_rule pm__law_rule cd__law_rule ct__law_rule oc__law_home kV__law_home dc__law_home pm__law_home cd__law_home ct__law_home oc__law_told kV__law_told dc__law_told pm__law_told cd__law_told ct__law_told oc__law_ways kV__law_ways dc__law_ways pm__law_ways cd__law_ways ct__law_ways oc__law_choices kV__law_choices dc__law_choices pm__law_choices cd__law_choices ct__law_choices oc_law kV_law dc_law pm_law cd_law ct_law : Value} {t_MOST_KEY t_LEAST_SIZE t_MOST_SIZE t_MOST_FACTOR t_LEAST_BITS t_MOST_BITS t_MOST_TOLD t_LEAST_TOLD_COUNT t_MOST_TOLD_COUNT t_MOST_LIMIT t_MOST_DEALINGS : Tok}
    (a_StrewError : PySem.W.nsIn K mainGlobals "StrewError" = some (some (.ref c_StrewError)))
    (a_BadRule : PySem.W.nsIn K mainGlobals "BadRule" = some (some (.ref c_BadRule)))
    (a_BadKey : PySem.W.nsIn K mainGlobals "BadKey" = some (some (.ref c_BadKey)))
    (a_BadSize : PySem.W.nsIn K mainGlobals "BadSize" = some (some (.ref c_BadSize)))
    (a_Full : PySem.W.nsIn K mainGlobals "Full" = some (some (.ref c_Full)))
    (a_TooMany : PySem.W.nsIn K mainGlobals "TooMany" = some (some (.ref c_TooMany)))
    (z_isinstance : PySem.W.nsIn K mainGlobals "isinstance" = some none)
    (z_bool : PySem.W.nsIn K mainGlobals "bool" = some none)
    (z_int : PySem.W.nsIn K mainGlobals "int" = some none)
    (z_len : PySem.W.nsIn K mainGlobals "len" = some none)
    (z_tuple : PySem.W.nsIn K mainGlobals "tuple" = some none)
    (z_str : PySem.W.nsIn K mainGlobals "str" = some none)
    (z_all : PySem.W.nsIn K mainGlobals "all" = some none)
    (z_sum : PySem.W.nsIn K mainGlobals "sum" = some none)
    (z_max : PySem.W.nsIn K mainGlobals "max" = some none)
    (z_min : PySem.W.nsIn K mainGlobals "min" = some none)
    (z_range : PySem.W.nsIn K mainGlobals "range" = some none)
    (z_list : PySem.W.nsIn K mainGlobals "list" = some none)
    (z_sorted : PySem.W.nsIn K mainGlobals "sorted" = some none)
    (z_zip : PySem.W.nsIn K mainGlobals "zip" = some none)
    (z_set : PySem.W.nsIn K mainGlobals "set" = some none)
    (z_ValueError : PySem.W.nsIn K mainGlobals "ValueError" = some none)
    (v_MOST_KEY : PySem.W.nsIn K mainGlobals "MOST_KEY" = some (some (.int 999999 t_MOST_KEY)))
    (v_LEAST_SIZE : PySem.W.nsIn K mainGlobals "LEAST_SIZE" = some (some (.int 2 t_LEAST_SIZE)))
    (v_MOST_SIZE : PySem.W.nsIn K mainGlobals "MOST_SIZE" = some (some (.int 64 t_MOST_SIZE)))
    (v_MOST_FACTOR : PySem.W.nsIn K mainGlobals "MOST_FACTOR" = some (some (.int 999999 t_MOST_FACTOR)))
    (v_LEAST_BITS : PySem.W.nsIn K mainGlobals "LEAST_BITS" = some (some (.int 1 t_LEAST_BITS)))
    (v_MOST_BITS : PySem.W.nsIn K mainGlobals "MOST_BITS" = some (some (.int 30 t_MOST_BITS)))
    (v_MOST_TOLD : PySem.W.nsIn K mainGlobals "MOST_TOLD" = some (some (.int 999 t_MOST_TOLD)))
    (v_LEAST_TOLD_COUNT : PySem.W.nsIn K mainGlobals "LEAST_TOLD_COUNT" = some (some (.int 1 t_LEAST_TOLD_COUNT)))
    (v_MOST_TOLD_COUNT : PySem.W.nsIn K mainGlobals "MOST_TOLD_COUNT" = some (some (.int 64 t_MOST_TOLD_COUNT)))
    (v_MOST_LIMIT : PySem.W.nsIn K mainGlobals "MOST_LIMIT" = some (some (.int 64 t_MOST_LIMIT)))
    (v_MOST_DEALINGS : PySem.W.nsIn K mainGlobals "MOST_DEALINGS" = some (some (.int 4000 t_MOST_DEALINGS)))
    (a_power : PySem.W.nsIn K mainGlobals "power" = some (some (.ref f_power)))
    (l_power : K.lookup f_power = some ⟨oc_power, od_power, .func (PySem.W.fnOf "power" "power" (defArgs (top 8)) (defBody (top 8)) (defScope (top 8)) .none kV_power dc_power pm_power an_power cd_power ct_power), sl_power⟩)
    (c_power : PySem.W.codeIn K cd_power "power" = true)
    (k_power : PySem.W.keepIn K (.ref f_power) = true)
    (a_is_whole : PySem.W.nsIn K mainGlobals "is_whole" = some (some (.ref f_is_whole)))
    (l_is_whole : K.lookup f_is_whole = some ⟨oc_is_whole, od_is_whole, .func (PySem.W.fnOf "is_whole" "is_whole" (defArgs (top 19)) (defBody (top 19)) (defScope (top 19)) .none kV_is_whole dc_is_whole pm_is_whole an_is_whole cd_is_whole ct_is_whole), sl_is_whole⟩)
    (c_is_whole : PySem.W.codeIn K cd_is_whole "is_whole" = true)
    (k_is_whole : PySem.W.keepIn K (.ref f_is_whole) = true)
    (a_is_times_rule : PySem.W.nsIn K mainGlobals "is_times_rule" = some (some (.ref f_is_times_rule)))
    (l_is_times_rule : K.lookup f_is_times_rule = some ⟨oc_is_times_rule, od_is_times_rule, .func (PySem.W.fnOf "is_times_rule" "is_times_rule" (defArgs (top 20)) (defBody (top 20)) (defScope (top 20)) .none kV_is_times_rule dc_is_times_rule pm_is_times_rule an_is_times_rule cd_is_times_rule ct_is_times_rule), sl_is_times_rule⟩)
    (c_is_times_rule : PySem.W.codeIn K cd_is_times_rule "is_times_rule" = true)
    (k_is_times_rule : PySem.W.keepIn K (.ref f_is_times_rule) = true)
    (a_is_high_rule : PySem.W.nsIn K mainGlobals "is_high_rule" = some (some (.ref f_is_high_rule)))
    (l_is_high_rule : K.lookup f_is_high_rule = some ⟨oc_is_high_rule, od_is_high_rule, .func (PySem.W.fnOf "is_high_rule" "is_high_rule" (defArgs (top 21)) (defBody (top 21)) (defScope (top 21)) .none kV_is_high_rule dc_is_high_rule pm_is_high_rule an_is_high_rule cd_is_high_rule ct_is_high_rule), sl_is_high_rule⟩)
    (c_is_high_rule : PySem.W.codeIn K cd_is_high_rule "is_high_rule" = true)
    (k_is_high_rule : PySem.W.keepIn K (.ref f_is_high_rule) = true)
    (a_is_told_rule : PySem.W.nsIn K mainGlobals "is_told_rule" = some (some (.ref f_is_told_rule)))
    (l_is_told_rule : K.lookup f_is_told_rule = some ⟨oc_is_told_rule, od_is_told_rule, .func (PySem.W.fnOf "is_told_rule" "is_told_rule" (defArgs (top 22)) (defBody (top 22)) (defScope (top 22)) .none kV_is_told_rule dc_is_told_rule pm_is_told_rule an_is_told_rule cd_is_told_rule ct_is_told_rule), sl_is_told_rule⟩)
    (c_is_told_rule : PySem.W.codeIn K cd_is_told_rule "is_told_rule" = true)
    (k_is_told_rule : PySem.W.keepIn K (.ref f_is_told_rule) = true)
    (a_is_rule : PySem.W.nsIn K mainGlobals "is_rule" = some (some (.ref f_is_rule)))
    (l_is_rule : K.lookup f_is_rule = some ⟨oc_is_rule, od_is_rule, .func (PySem.W.fnOf "is_rule" "is_rule" (defArgs (top 23)) (defBody (top 23)) (defScope (top 23)) .none kV_is_rule dc_is_rule pm_is_rule an_is_rule cd_is_rule ct_is_rule), sl_is_rule⟩)
    (c_is_rule : PySem.W.codeIn K cd_is_rule "is_rule" = true)
    (k_is_rule : PySem.W.keepIn K (.ref f_is_rule) = true)
    (a_check_rule : PySem.W.nsIn K mainGlobals "check_rule" = some (some (.ref f_check_rule)))
    (l_check_rule : K.lookup f_check_rule = some ⟨oc_check_rule, od_check_rule, .func (PySem.W.fnOf "check_rule" "check_rule" (defArgs (top 24)) (defBody (top 24)) (defScope (top 24)) .none kV_check_rule dc_check_rule pm_check_rule an_check_rule cd_check_rule ct_check_rule), sl_check_rule⟩)
    (c_check_rule : PySem.W.codeIn K cd_check_rule "check_rule" = true)
    (k_check_rule : PySem.W.keepIn K (.ref f_check_rule) = true)
    (a_check_key : PySem.W.nsIn K mainGlobals "check_key" = some (some (.ref f_check_key)))
    (l_check_key : K.lookup f_check_key = some ⟨oc_check_key, od_check_key, .func (PySem.W.fnOf "check_key" "check_key" (defArgs (top 25)) (defBody (top 25)) (defScope (top 25)) .none kV_check_key dc_check_key pm_check_key an_check_key cd_check_key ct_check_key), sl_check_key⟩)
    (c_check_key : PySem.W.codeIn K cd_check_key "check_key" = true)
    (k_check_key : PySem.W.keepIn K (.ref f_check_key) = true)
    (a_check_keys : PySem.W.nsIn K mainGlobals "check_keys" = some (some (.ref f_check_keys)))
    (l_check_keys : K.lookup f_check_keys = some ⟨oc_check_keys, od_check_keys, .func (PySem.W.fnOf "check_keys" "check_keys" (defArgs (top 26)) (defBody (top 26)) (defScope (top 26)) .none kV_check_keys dc_check_keys pm_check_keys an_check_keys cd_check_keys ct_check_keys), sl_check_keys⟩)
    (c_check_keys : PySem.W.codeIn K cd_check_keys "check_keys" = true)
    (k_check_keys : PySem.W.keepIn K (.ref f_check_keys) = true)
    (a_check_size : PySem.W.nsIn K mainGlobals "check_size" = some (some (.ref f_check_size)))
    (l_check_size : K.lookup f_check_size = some ⟨oc_check_size, od_check_size, .func (PySem.W.fnOf "check_size" "check_size" (defArgs (top 27)) (defBody (top 27)) (defScope (top 27)) .none kV_check_size dc_check_size pm_check_size an_check_size cd_check_size ct_check_size), sl_check_size⟩)
    (c_check_size : PySem.W.codeIn K cd_check_size "check_size" = true)
    (k_check_size : PySem.W.keepIn K (.ref f_check_size) = true)
    (a_check_count : PySem.W.nsIn K mainGlobals "check_count" = some (some (.ref f_check_count)))
    (l_check_count : K.lookup f_check_count = some ⟨oc_check_count, od_check_count, .func (PySem.W.fnOf "check_count" "check_count" (defArgs (top 28)) (defBody (top 28)) (defScope (top 28)) .none kV_check_count dc_check_count pm_check_count an_check_count cd_check_count ct_check_count), sl_check_count⟩)
    (c_check_count : PySem.W.codeIn K cd_check_count "check_count" = true)
    (k_check_count : PySem.W.keepIn K (.ref f_check_count) = true)
    (a_reckon_home : PySem.W.nsIn K mainGlobals "reckon_home" = some (some (.ref f_reckon_home)))
    (l_reckon_home : K.lookup f_reckon_home = some ⟨oc_reckon_home, od_reckon_home, .func (PySem.W.fnOf "reckon_home" "reckon_home" (defArgs (top 29)) (defBody (top 29)) (defScope (top 29)) .none kV_reckon_home dc_reckon_home pm_reckon_home an_reckon_home cd_reckon_home ct_reckon_home), sl_reckon_home⟩)
    (c_reckon_home : PySem.W.codeIn K cd_reckon_home "reckon_home" = true)
    (k_reckon_home : PySem.W.keepIn K (.ref f_reckon_home) = true)
    (a_chains : PySem.W.nsIn K mainGlobals "chains" = some (some (.ref f_chains)))
    (l_chains : K.lookup f_chains = some ⟨oc_chains, od_chains, .func (PySem.W.fnOf "chains" "chains" (defArgs (top 31)) (defBody (top 31)) (defScope (top 31)) .none kV_chains dc_chains pm_chains an_chains cd_chains ct_chains), sl_chains⟩)
    (c_chains : PySem.W.codeIn K cd_chains "chains" = true)
    (k_chains : PySem.W.keepIn K (.ref f_chains) = true)
    (a_dealt_further : PySem.W.nsIn K mainGlobals "dealt_further" = some (some (.ref f_dealt_further)))
    (l_dealt_further : K.lookup f_dealt_further = some ⟨oc_dealt_further, od_dealt_further, .func (PySem.W.fnOf "dealt_further" "dealt_further" (defArgs (top 35)) (defBody (top 35)) (defScope (top 35)) .none kV_dealt_further dc_dealt_further pm_dealt_further an_dealt_further cd_dealt_further ct_dealt_further), sl_dealt_further⟩)
    (c_dealt_further : PySem.W.codeIn K cd_dealt_further "dealt_further" = true)
    (k_dealt_further : PySem.W.keepIn K (.ref f_dealt_further) = true)
    (a_all_dealings : PySem.W.nsIn K mainGlobals "all_dealings" = some (some (.ref f_all_dealings)))
    (l_all_dealings : K.lookup f_all_dealings = some ⟨oc_all_dealings, od_all_dealings, .func (PySem.W.fnOf "all_dealings" "all_dealings" (defArgs (top 36)) (defBody (top 36)) (defScope (top 36)) .none kV_all_dealings dc_all_dealings pm_all_dealings an_all_dealings cd_all_dealings ct_all_dealings), sl_all_dealings⟩)
    (c_all_dealings : PySem.W.codeIn K cd_all_dealings "all_dealings" = true)
    (k_all_dealings : PySem.W.keepIn K (.ref f_all_dealings) = true)
    (a_ways_of_dealing : PySem.W.nsIn K mainGlobals "ways_of_dealing" = some (some (.ref f_ways_of_dealing)))
    (l_ways_of_dealing : K.lookup f_ways_of_dealing = some ⟨oc_ways_of_dealing, od_ways_of_dealing, .func (PySem.W.fnOf "ways_of_dealing" "ways_of_dealing" (defArgs (top 37)) (defBody (top 37)) (defScope (top 37)) .none kV_ways_of_dealing dc_ways_of_dealing pm_ways_of_dealing an_ways_of_dealing cd_ways_of_dealing ct_ways_of_dealing), sl_ways_of_dealing⟩)
    (c_ways_of_dealing : PySem.W.codeIn K cd_ways_of_dealing "ways_of_dealing" = true)
    (k_ways_of_dealing : PySem.W.keepIn K (.ref f_ways_of_dealing) = true)
    (a_worst : PySem.W.nsIn K mainGlobals "worst" = some (some (.ref f_worst)))
    (l_worst : K.lookup f_worst = some ⟨oc_worst, od_worst, .func (PySem.W.fnOf "worst" "worst" (defArgs (top 38)) (defBody (top 38)) (defScope (top 38)) .none kV_worst dc_worst pm_worst an_worst cd_worst ct_worst), sl_worst⟩)
    (c_worst : PySem.W.codeIn K cd_worst "worst" = true)
    (k_worst : PySem.W.keepIn K (.ref f_worst) = true)
    (a__law_cell : PySem.W.nsIn K mainGlobals "_law_cell" = some (some (.ref f__law_cell)))
    (l__law_cell : K.lookup f__law_cell = some ⟨oc__law_cell, od__law_cell, .func (PySem.W.fnOf "_law_cell" "_law_cell" (defArgs (top 40)) (defBody (top 40)) (defScope (top 40)) .none kV__law_cell dc__law_cell pm__law_cell an__law_cell cd__law_cell ct__law_cell), sl__law_cell⟩)
    (c__law_cell : PySem.W.codeIn K cd__law_cell "_law_cell" = true)
    (k__law_cell : PySem.W.keepIn K (.ref f__law_cell) = true)
    (a__law_drawn : PySem.W.nsIn K mainGlobals "_law_drawn" = some (some (.ref f__law_drawn)))
    (l__law_drawn : K.lookup f__law_drawn = some ⟨oc__law_drawn, od__law_drawn, .func (PySem.W.fnOf "_law_drawn" "_law_drawn" (defArgs (top 41)) (defBody (top 41)) (defScope (top 41)) .none kV__law_drawn dc__law_drawn pm__law_drawn an__law_drawn cd__law_drawn ct__law_drawn), sl__law_drawn⟩)
    (c__law_drawn : PySem.W.codeIn K cd__law_drawn "_law_drawn" = true)
    (k__law_drawn : PySem.W.keepIn K (.ref f__law_drawn) = true)
    (a__law_word : PySem.W.nsIn K mainGlobals "_law_word" = some (some (.ref f__law_word)))
    (l__law_word : K.lookup f__law_word = some ⟨oc__law_word, od__law_word, .func (PySem.W.fnOf "_law_word" "_law_word" (defArgs (top 42)) (defBody (top 42)) (defScope (top 42)) .none kV__law_word dc__law_word pm__law_word an__law_word cd__law_word ct__law_word), sl__law_word⟩)
    (c__law_word : PySem.W.codeIn K cd__law_word "_law_word" = true)
    (k__law_word : PySem.W.keepIn K (.ref f__law_word) = true)
    (a__law_rule : PySem.W.nsIn K mainGlobals "_law_rule" = some (some (.ref f__law_rule)))
    (l__law_rule : K.lookup f__law_rule = some ⟨oc__law_rule, od__law_rule, .func (PySem.W.fnOf "_law_rule" "_law_rule" (defArgs (top 43)) (defBody (top 43)) (defScope (top 43)) .none kV__law_rule dc__law_rule pm__law_rule an__law_rule cd__law_rule ct__law_rule), sl__law_rule⟩)
    (c__law_rule : PySem.W.codeIn K cd__law_rule "_law_rule" = true)
    (k__law_rule : PySem.W.keepIn K (.ref f__law_rule) = true)
    (a__law_home : PySem.W.nsIn K mainGlobals "_law_home" = some (some (.ref f__law_home)))
    (l__law_home : K.lookup f__law_home = some ⟨oc__law_home, od__law_home, .func (PySem.W.fnOf "_law_home" "_law_home" (defArgs (top 44)) (defBody (top 44)) (defScope (top 44)) .none kV__law_home dc__law_home pm__law_home an__law_home cd__law_home ct__law_home), sl__law_home⟩)
    (c__law_home : PySem.W.codeIn K cd__law_home "_law_home" = true)
    (k__law_home : PySem.W.keepIn K (.ref f__law_home) = true)
    (a__law_told : PySem.W.nsIn K mainGlobals "_law_told" = some (some (.ref f__law_told)))
    (l__law_told : K.lookup f__law_told = some ⟨oc__law_told, od__law_told, .func (PySem.W.fnOf "_law_told" "_law_told" (defArgs (top 46)) (defBody (top 46)) (defScope (top 46)) .none kV__law_told dc__law_told pm__law_told an__law_told cd__law_told ct__law_told), sl__law_told⟩)
    (c__law_told : PySem.W.codeIn K cd__law_told "_law_told" = true)
    (k__law_told : PySem.W.keepIn K (.ref f__law_told) = true)
    (a__law_ways : PySem.W.nsIn K mainGlobals "_law_ways" = some (some (.ref f__law_ways)))
    (l__law_ways : K.lookup f__law_ways = some ⟨oc__law_ways, od__law_ways, .func (PySem.W.fnOf "_law_ways" "_law_ways" (defArgs (top 47)) (defBody (top 47)) (defScope (top 47)) .none kV__law_ways dc__law_ways pm__law_ways an__law_ways cd__law_ways ct__law_ways), sl__law_ways⟩)
    (c__law_ways : PySem.W.codeIn K cd__law_ways "_law_ways" = true)
    (k__law_ways : PySem.W.keepIn K (.ref f__law_ways) = true)
    (a__law_choices : PySem.W.nsIn K mainGlobals "_law_choices" = some (some (.ref f__law_choices)))
    (l__law_choices : K.lookup f__law_choices = some ⟨oc__law_choices, od__law_choices, .func (PySem.W.fnOf "_law_choices" "_law_choices" (defArgs (top 48)) (defBody (top 48)) (defScope (top 48)) .none kV__law_choices dc__law_choices pm__law_choices an__law_choices cd__law_choices ct__law_choices), sl__law_choices⟩)
    (c__law_choices : PySem.W.codeIn K cd__law_choices "_law_choices" = true)
    (k__law_choices : PySem.W.keepIn K (.ref f__law_choices) = true)
    (a_law : PySem.W.nsIn K mainGlobals "law" = some (some (.ref f_law)))
    (l_law : K.lookup f_law = some ⟨oc_law, od_law, .func (PySem.W.fnOf "law" "law" (defArgs (top 49)) (defBody (top 49)) (defScope (top 49)) .none kV_law dc_law pm_law an_law cd_law ct_law), sl_law⟩)
    (c_law : PySem.W.codeIn K cd_law "law" = true)
    (k_law : PySem.W.keepIn K (.ref f_law) = true)
    (x_StrewError : PySem.W.excIn K c_StrewError veB "ValueError.__new__" = true)
    (x_BadRule : PySem.W.excIn K c_BadRule veB "ValueError.__new__" = true)
    (x_BadKey : PySem.W.excIn K c_BadKey veB "ValueError.__new__" = true)
    (x_BadSize : PySem.W.excIn K c_BadSize veB "ValueError.__new__" = true)
    (x_Full : PySem.W.excIn K c_Full veB "ValueError.__new__" = true)
    (x_TooMany : PySem.W.excIn K c_TooMany veB "ValueError.__new__" = true)
    (ga0 : PySem.W.findIn K (.ref c_BadRule) "__getattribute__" = some (some (.builtin "BaseException.__getattribute__")))
    (na0 : PySem.W.findIn K (.ref c_BadRule) "__getattr__" = some none)
    (ca0 : PySem.W.findIn K (.ref c_BadRule) "__class__" = some (some (.builtin "object.__class__")))
    (mo0 : PySem.W.mroIn K c_BadRule (.type "object") = some true)
    (mb0 : PySem.W.mroIn K c_BadRule (.type "BaseException") = some true)
    (hd0 : PySem.W.hasDictIn K c_BadRule = true)
    (ex0 : PySem.W.exmOne K (.ref c_BadRule) (.ref c_StrewError) = some true)
    (q00 : PySem.W.kitOne K (.ref c_BadRule) (.ref c_BadRule) = some true)
    (q01 : PySem.W.kitOne K (.ref c_BadRule) (.ref c_BadKey) = some false)
    (q02 : PySem.W.kitOne K (.ref c_BadRule) (.ref c_BadSize) = some false)
    (q03 : PySem.W.kitOne K (.ref c_BadRule) (.ref c_Full) = some false)
    (q04 : PySem.W.kitOne K (.ref c_BadRule) (.ref c_TooMany) = some false)
    (ve0 : PySem.W.kitOne K (.ref c_BadRule) (.type "ValueError") = some true)
    (ga1 : PySem.W.findIn K (.ref c_BadKey) "__getattribute__" = some (some (.builtin "BaseException.__getattribute__")))
    (na1 : PySem.W.findIn K (.ref c_BadKey) "__getattr__" = some none)
    (ca1 : PySem.W.findIn K (.ref c_BadKey) "__class__" = some (some (.builtin "object.__class__")))
    (mo1 : PySem.W.mroIn K c_BadKey (.type "object") = some true)
    (mb1 : PySem.W.mroIn K c_BadKey (.type "BaseException") = some true)
    (hd1 : PySem.W.hasDictIn K c_BadKey = true)
    (ex1 : PySem.W.exmOne K (.ref c_BadKey) (.ref c_StrewError) = some true)
    (q10 : PySem.W.kitOne K (.ref c_BadKey) (.ref c_BadRule) = some false)
    (q11 : PySem.W.kitOne K (.ref c_BadKey) (.ref c_BadKey) = some true)
    (q12 : PySem.W.kitOne K (.ref c_BadKey) (.ref c_BadSize) = some false)
    (q13 : PySem.W.kitOne K (.ref c_BadKey) (.ref c_Full) = some false)
    (q14 : PySem.W.kitOne K (.ref c_BadKey) (.ref c_TooMany) = some false)
    (ve1 : PySem.W.kitOne K (.ref c_BadKey) (.type "ValueError") = some true)
    (ga2 : PySem.W.findIn K (.ref c_BadSize) "__getattribute__" = some (some (.builtin "BaseException.__getattribute__")))
    (na2 : PySem.W.findIn K (.ref c_BadSize) "__getattr__" = some none)
    (ca2 : PySem.W.findIn K (.ref c_BadSize) "__class__" = some (some (.builtin "object.__class__")))
    (mo2 : PySem.W.mroIn K c_BadSize (.type "object") = some true)
    (mb2 : PySem.W.mroIn K c_BadSize (.type "BaseException") = some true)
    (hd2 : PySem.W.hasDictIn K c_BadSize = true)
    (ex2 : PySem.W.exmOne K (.ref c_BadSize) (.ref c_StrewError) = some true)
    (q20 : PySem.W.kitOne K (.ref c_BadSize) (.ref c_BadRule) = some false)
    (q21 : PySem.W.kitOne K (.ref c_BadSize) (.ref c_BadKey) = some false)
    (q22 : PySem.W.kitOne K (.ref c_BadSize) (.ref c_BadSize) = some true)
    (q23 : PySem.W.kitOne K (.ref c_BadSize) (.ref c_Full) = some false)
    (q24 : PySem.W.kitOne K (.ref c_BadSize) (.ref c_TooMany) = some false)
    (ve2 : PySem.W.kitOne K (.ref c_BadSize) (.type "ValueError") = some true)
    (ga3 : PySem.W.findIn K (.ref c_Full) "__getattribute__" = some (some (.builtin "BaseException.__getattribute__")))
    (na3 : PySem.W.findIn K (.ref c_Full) "__getattr__" = some none)
    (ca3 : PySem.W.findIn K (.ref c_Full) "__class__" = some (some (.builtin "object.__class__")))
    (mo3 : PySem.W.mroIn K c_Full (.type "object") = some true)
    (mb3 : PySem.W.mroIn K c_Full (.type "BaseException") = some true)
    (hd3 : PySem.W.hasDictIn K c_Full = true)
    (ex3 : PySem.W.exmOne K (.ref c_Full) (.ref c_StrewError) = some true)
    (q30 : PySem.W.kitOne K (.ref c_Full) (.ref c_BadRule) = some false)
    (q31 : PySem.W.kitOne K (.ref c_Full) (.ref c_BadKey) = some false)
    (q32 : PySem.W.kitOne K (.ref c_Full) (.ref c_BadSize) = some false)
    (q33 : PySem.W.kitOne K (.ref c_Full) (.ref c_Full) = some true)
    (q34 : PySem.W.kitOne K (.ref c_Full) (.ref c_TooMany) = some false)
    (ve3 : PySem.W.kitOne K (.ref c_Full) (.type "ValueError") = some true)
    (ga4 : PySem.W.findIn K (.ref c_TooMany) "__getattribute__" = some (some (.builtin "BaseException.__getattribute__")))
    (na4 : PySem.W.findIn K (.ref c_TooMany) "__getattr__" = some none)
    (ca4 : PySem.W.findIn K (.ref c_TooMany) "__class__" = some (some (.builtin "object.__class__")))
    (mo4 : PySem.W.mroIn K c_TooMany (.type "object") = some true)
    (mb4 : PySem.W.mroIn K c_TooMany (.type "BaseException") = some true)
    (hd4 : PySem.W.hasDictIn K c_TooMany = true)
    (ex4 : PySem.W.exmOne K (.ref c_TooMany) (.ref c_StrewError) = some true)
    (q40 : PySem.W.kitOne K (.ref c_TooMany) (.ref c_BadRule) = some false)
    (q41 : PySem.W.kitOne K (.ref c_TooMany) (.ref c_BadKey) = some false)
    (q42 : PySem.W.kitOne K (.ref c_TooMany) (.ref c_BadSize) = some false)
    (q43 : PySem.W.kitOne K (.ref c_TooMany) (.ref c_Full) = some false)
    (q44 : PySem.W.kitOne K (.ref c_TooMany) (.ref c_TooMany) = some true)
    (ve4 : PySem.W.kitOne K (.ref c_TooMany) (.type "ValueError") = some true)
    (cg : PySem.W.specialIn K (.builtin "object.__class__") "__get__" = some (some (.builtin "getset_descriptor.__get__")))
    (ct : PySem.W.takesIn K (.builtin "object.__class__") = some true)
    : ∃ fd : FuncData, (∀ (s : Shared) (v : Value), BindsTo s fd ⟨[v], []⟩ [("_law_script", v)]) ∧ ∀ base : Heap, K.In base → base.Ns mainGlobals mg → FnOk l.prog w K mg base (CX1 l.prog w) true 8 fa fd ["_law_script"] (spLaw K) := by
  have e := hfa.symm.trans (PySem.W.mg_of X G a_law)
  cases e
  let cl : CN → Addr := fun n => match n with | .StrewError => c_StrewError | .BadRule => c_BadRule | .BadKey => c_BadKey | .BadSize => c_BadSize | .Full => c_Full | .TooMany => c_TooMany | _ => 0
  have T : Tx K mg cl := ⟨PySem.W.mg_none_of X G z_isinstance, PySem.W.mg_none_of X G z_bool, PySem.W.mg_none_of X G z_int, PySem.W.mg_none_of X G z_len, PySem.W.mg_none_of X G z_tuple, PySem.W.mg_none_of X G z_str, PySem.W.mg_none_of X G z_all, PySem.W.mg_none_of X G z_sum, PySem.W.mg_none_of X G z_max, PySem.W.mg_none_of X G z_min, PySem.W.mg_none_of X G z_range, PySem.W.mg_none_of X G z_list, PySem.W.mg_none_of X G z_sorted, PySem.W.mg_none_of X G z_zip, PySem.W.mg_none_of X G z_set, PySem.W.mg_none_of X G z_ValueError, ⟨_, PySem.W.mg_of X G v_MOST_KEY, ⟨_, rfl⟩⟩, ⟨_, PySem.W.mg_of X G v_LEAST_SIZE, ⟨_, rfl⟩⟩, ⟨_, PySem.W.mg_of X G v_MOST_SIZE, ⟨_, rfl⟩⟩, ⟨_, PySem.W.mg_of X G v_MOST_FACTOR, ⟨_, rfl⟩⟩, ⟨_, PySem.W.mg_of X G v_LEAST_BITS, ⟨_, rfl⟩⟩, ⟨_, PySem.W.mg_of X G v_MOST_BITS, ⟨_, rfl⟩⟩, ⟨_, PySem.W.mg_of X G v_MOST_TOLD, ⟨_, rfl⟩⟩, ⟨_, PySem.W.mg_of X G v_LEAST_TOLD_COUNT, ⟨_, rfl⟩⟩, ⟨_, PySem.W.mg_of X G v_MOST_TOLD_COUNT, ⟨_, rfl⟩⟩, ⟨_, PySem.W.mg_of X G v_MOST_LIMIT, ⟨_, rfl⟩⟩, ⟨_, PySem.W.mg_of X G v_MOST_DEALINGS, ⟨_, rfl⟩⟩, PySem.W.mg_of X G a_StrewError, x_StrewError, PySem.W.mg_of X G a_BadRule, x_BadRule, PySem.W.mg_of X G a_BadKey, x_BadKey, PySem.W.mg_of X G a_BadSize, x_BadSize, PySem.W.mg_of X G a_Full, x_Full, PySem.W.mg_of X G a_TooMany, x_TooMany, ⟨⟨ga0, na0, ca0, cg, ct, mo0, mb0, hd0⟩, ex0, q00, q01, q02, q03, q04, ve0⟩, ⟨⟨ga1, na1, ca1, cg, ct, mo1, mb1, hd1⟩, ex1, q10, q11, q12, q13, q14, ve1⟩, ⟨⟨ga2, na2, ca2, cg, ct, mo2, mb2, hd2⟩, ex2, q20, q21, q22, q23, q24, ve2⟩, ⟨⟨ga3, na3, ca3, cg, ct, mo3, mb3, hd3⟩, ex3, q30, q31, q32, q33, q34, ve3⟩, ⟨⟨ga4, na4, ca4, cg, ct, mo4, mb4, hd4⟩, ex4, q40, q41, q42, q43, q44, ve4⟩⟩
  have F_power := fun_mk (st := top 8) l_power c_power k_power
  have b_power := F_power.binds (ps := ["base", "exponent"]) fun _ _ _ _ _ _ => ln2 fun _ _ => rfl
  have F_is_whole := fun_mk (st := top 19) l_is_whole c_is_whole k_is_whole
  have b_is_whole := F_is_whole.binds (ps := ["thing", "least", "most"]) fun _ _ _ _ _ _ => ln3 fun _ _ _ => rfl
  have F_is_times_rule := fun_mk (st := top 20) l_is_times_rule c_is_times_rule k_is_times_rule
  have b_is_times_rule := F_is_times_rule.binds (ps := ["rule"]) fun _ _ _ _ _ _ => ln1 fun _ => rfl
  have F_is_high_rule := fun_mk (st := top 21) l_is_high_rule c_is_high_rule k_is_high_rule
  have b_is_high_rule := F_is_high_rule.binds (ps := ["rule"]) fun _ _ _ _ _ _ => ln1 fun _ => rfl
  have F_is_told_rule := fun_mk (st := top 22) l_is_told_rule c_is_told_rule k_is_told_rule
  have b_is_told_rule := F_is_told_rule.binds (ps := ["rule"]) fun _ _ _ _ _ _ => ln1 fun _ => rfl
  have F_is_rule := fun_mk (st := top 23) l_is_rule c_is_rule k_is_rule
  have b_is_rule := F_is_rule.binds (ps := ["thing"]) fun _ _ _ _ _ _ => ln1 fun _ => rfl
  have F_check_rule := fun_mk (st := top 24) l_check_rule c_check_rule k_check_rule
  have b_check_rule := F_check_rule.binds (ps := ["rule"]) fun _ _ _ _ _ _ => ln1 fun _ => rfl
  have F_check_key := fun_mk (st := top 25) l_check_key c_check_key k_check_key
  have b_check_key := F_check_key.binds (ps := ["key"]) fun _ _ _ _ _ _ => ln1 fun _ => rfl
  have F_check_keys := fun_mk (st := top 26) l_check_keys c_check_keys k_check_keys
  have b_check_keys := F_check_keys.binds (ps := ["keys"]) fun _ _ _ _ _ _ => ln1 fun _ => rfl
  have F_check_size := fun_mk (st := top 27) l_check_size c_check_size k_check_size
  have b_check_size := F_check_size.binds (ps := ["size"]) fun _ _ _ _ _ _ => ln1 fun _ => rfl
  have F_check_count := fun_mk (st := top 28) l_check_count c_check_count k_check_count
  have b_check_count := F_check_count.binds (ps := ["count", "least", "most"]) fun _ _ _ _ _ _ => ln3 fun _ _ _ => rfl
  have F_reckon_home := fun_mk (st := top 29) l_reckon_home c_reckon_home k_reckon_home
  have b_reckon_home := F_reckon_home.binds (ps := ["rule", "key", "size"]) fun _ _ _ _ _ _ => ln3 fun _ _ _ => rfl
  have F_chains := fun_mk (st := top 31) l_chains c_chains k_chains
  have b_chains := F_chains.binds (ps := ["rule", "size", "keys"]) fun _ _ _ _ _ _ => ln3 fun _ _ _ => rfl
  have F_dealt_further := fun_mk (st := top 35) l_dealt_further c_dealt_further k_dealt_further
  have b_dealt_further := F_dealt_further.binds (ps := ["dealt", "room", "behind", "many"]) fun _ _ _ _ _ _ => ln4 fun _ _ _ _ => rfl
  have F_all_dealings := fun_mk (st := top 36) l_all_dealings c_all_dealings k_all_dealings
  have b_all_dealings := F_all_dealings.binds (ps := ["rooms", "many"]) fun _ _ _ _ _ _ => ln2 fun _ _ => rfl
  have F_ways_of_dealing := fun_mk (st := top 37) l_ways_of_dealing c_ways_of_dealing k_ways_of_dealing
  have b_ways_of_dealing := F_ways_of_dealing.binds (ps := ["dealt"]) fun _ _ _ _ _ _ => ln1 fun _ => rfl
  have F_worst := fun_mk (st := top 38) l_worst c_worst k_worst
  have b_worst := F_worst.binds (ps := ["rule", "size", "many", "limit"]) fun _ _ _ _ _ _ => ln4 fun _ _ _ _ => rfl
  have F__law_cell := fun_mk (st := top 40) l__law_cell c__law_cell k__law_cell
  have b__law_cell := F__law_cell.binds (ps := ["_law_script", "_law_k"]) fun _ _ _ _ _ _ => ln2 fun _ _ => rfl
  have F__law_drawn := fun_mk (st := top 41) l__law_drawn c__law_drawn k__law_drawn
  have b__law_drawn := F__law_drawn.binds (ps := ["_law_cell_here", "_law_k"]) fun _ _ _ _ _ _ => ln2 fun _ _ => rfl
  have F__law_word := fun_mk (st := top 42) l__law_word c__law_word k__law_word
  have b__law_word := F__law_word.binds (ps := ["_law_e"]) fun _ _ _ _ _ _ => ln1 fun _ => rfl
  have F__law_rule := fun_mk (st := top 43) l__law_rule c__law_rule k__law_rule
  have b__law_rule := F__law_rule.binds (ps := ["_law_more"]) fun _ _ _ _ _ _ => ln1 fun _ => rfl
  have F__law_home := fun_mk (st := top 44) l__law_home c__law_home k__law_home
  have b__law_home := F__law_home.binds (ps := ["_law_rule_here", "_law_key", "_law_size"]) fun _ _ _ _ _ _ => ln3 fun _ _ _ => rfl
  have F__law_told := fun_mk (st := top 46) l__law_told c__law_told k__law_told
  have b__law_told := F__law_told.binds (ps := ["_law_rule_here", "_law_size", "_law_many", "_law_limit"]) fun _ _ _ _ _ _ => ln4 fun _ _ _ _ => rfl
  have F__law_ways := fun_mk (st := top 47) l__law_ways c__law_ways k__law_ways
  have b__law_ways := F__law_ways.binds (ps := ["_law_rule_here", "_law_size", "_law_keys_here"]) fun _ _ _ _ _ _ => ln3 fun _ _ _ => rfl
  have F__law_choices := fun_mk (st := top 48) l__law_choices c__law_choices k__law_choices
  have b__law_choices := F__law_choices.binds (ps := ["_law_limit", "_law_many"]) fun _ _ _ _ _ _ => ln2 fun _ _ => rfl
  have F_law := fun_mk (st := top 49) l_law c_law k_law
  have b_law := F_law.binds (ps := ["_law_script"]) fun _ _ _ _ _ _ => ln1 fun _ => rfl
  refine ⟨PySem.W.fnOf "law" "law" (defArgs (top 49)) (defBody (top 49)) (defScope (top 49)) .none kV_law dc_law pm_law an_law cd_law ct_law, fun s v => .of_eq rfl, fun base _ _ => ?_⟩
  have O_power : Own l.prog w K mg base true 1 "power" ["base", "exponent"] (spPow) := ⟨f_power, _, ok_power F_power T, b_power, k_power, PySem.W.mg_of X G a_power⟩
  have O_is_whole : Own l.prog w K mg base true 1 "is_whole" ["thing", "least", "most"] (spWhole) := ⟨f_is_whole, _, ok_is_whole F_is_whole T, b_is_whole, k_is_whole, PySem.W.mg_of X G a_is_whole⟩
  have O_is_times_rule : Own l.prog w K mg base true 2 "is_times_rule" ["rule"] (spTimes) := ⟨f_is_times_rule, _, ok_is_times_rule F_is_times_rule T O_is_whole, b_is_times_rule, k_is_times_rule, PySem.W.mg_of X G a_is_times_rule⟩
  have O_is_high_rule : Own l.prog w K mg base true 2 "is_high_rule" ["rule"] (spHigh) := ⟨f_is_high_rule, _, ok_is_high_rule F_is_high_rule T O_is_whole, b_is_high_rule, k_is_high_rule, PySem.W.mg_of X G a_is_high_rule⟩
  have O_is_told_rule : Own l.prog w K mg base true 2 "is_told_rule" ["rule"] (spTold) := ⟨f_is_told_rule, _, ok_is_told_rule F_is_told_rule T O_is_whole, b_is_told_rule, k_is_told_rule, PySem.W.mg_of X G a_is_told_rule⟩
  have O_is_rule : Own l.prog w K mg base true 3 "is_rule" ["thing"] (spIsRule) := ⟨f_is_rule, _, ok_is_rule F_is_rule T O_is_times_rule O_is_high_rule O_is_told_rule, b_is_rule, k_is_rule, PySem.W.mg_of X G a_is_rule⟩
  have O_check_rule : Own l.prog w K mg base true 4 "check_rule" ["rule"] (spCheckRule (cl .BadRule)) := ⟨f_check_rule, _, ok_check_rule F_check_rule T O_is_rule, b_check_rule, k_check_rule, PySem.W.mg_of X G a_check_rule⟩
  have O_check_key : Own l.prog w K mg base true 2 "check_key" ["key"] (spCheckKey (cl .BadKey)) := ⟨f_check_key, _, ok_check_key F_check_key T O_is_whole, b_check_key, k_check_key, PySem.W.mg_of X G a_check_key⟩
  have O_check_keys : Own l.prog w K mg base true 3 "check_keys" ["keys"] (spCheckKeys (cl .BadKey)) := ⟨f_check_keys, _, ok_check_keys F_check_keys T O_check_key, b_check_keys, k_check_keys, PySem.W.mg_of X G a_check_keys⟩
  have O_check_size : Own l.prog w K mg base true 2 "check_size" ["size"] (spCheckSize (cl .BadSize)) := ⟨f_check_size, _, ok_check_size F_check_size T O_is_whole, b_check_size, k_check_size, PySem.W.mg_of X G a_check_size⟩
  have O_check_count : Own l.prog w K mg base true 2 "check_count" ["count", "least", "most"] (spCheckCount (cl .BadSize)) := ⟨f_check_count, _, ok_check_count F_check_count T O_is_whole, b_check_count, k_check_count, PySem.W.mg_of X G a_check_count⟩
  have O_reckon_home : Own l.prog w K mg base true 2 "reckon_home" ["rule", "key", "size"] (spReckon) := ⟨f_reckon_home, _, ok_reckon_home F_reckon_home T O_power, b_reckon_home, k_reckon_home, PySem.W.mg_of X G a_reckon_home⟩
  have O_chains : Own l.prog w K mg base true 5 "chains" ["rule", "size", "keys"] (spChainsR (cl .BadRule) (cl .BadSize) (cl .BadKey)) := ⟨f_chains, _, ok_chains F_chains T O_check_rule O_check_keys O_check_size O_reckon_home, b_chains, k_chains, PySem.W.mg_of X G a_chains⟩
  have O_dealt_further : Own l.prog w K mg base true 1 "dealt_further" ["dealt", "room", "behind", "many"] (spFurther) := ⟨f_dealt_further, _, ok_dealt_further F_dealt_further T, b_dealt_further, k_dealt_further, PySem.W.mg_of X G a_dealt_further⟩
  have O_all_dealings : Own l.prog w K mg base true 2 "all_dealings" ["rooms", "many"] (spAllD (cl .TooMany)) := ⟨f_all_dealings, _, ok_all_dealings F_all_dealings T O_dealt_further, b_all_dealings, k_all_dealings, PySem.W.mg_of X G a_all_dealings⟩
  have O_ways_of_dealing : Own l.prog w K mg base true 1 "ways_of_dealing" ["dealt"] (spWod) := ⟨f_ways_of_dealing, _, ok_ways_of_dealing F_ways_of_dealing T, b_ways_of_dealing, k_ways_of_dealing, PySem.W.mg_of X G a_ways_of_dealing⟩
  have O_worst : Own l.prog w K mg base true 6 "worst" ["rule", "size", "many", "limit"] (spWorst (cl .BadRule) (cl .BadSize) (cl .TooMany)) := ⟨f_worst, _, ok_worst F_worst T O_check_rule O_check_size O_check_count O_chains O_all_dealings O_ways_of_dealing, b_worst, k_worst, PySem.W.mg_of X G a_worst⟩
  have O__law_cell : Own l.prog w K mg base true 1 "_law_cell" ["_law_script", "_law_k"] (spCell K) := ⟨f__law_cell, _, ok__law_cell F__law_cell T, b__law_cell, k__law_cell, PySem.W.mg_of X G a__law_cell⟩
  have O__law_drawn : Own l.prog w K mg base true 1 "_law_drawn" ["_law_cell_here", "_law_k"] (spDrawn) := ⟨f__law_drawn, _, ok__law_drawn F__law_drawn T, b__law_drawn, k__law_drawn, PySem.W.mg_of X G a__law_drawn⟩
  have O__law_word : Own l.prog w K mg base false 1 "_law_word" ["_law_e"] (spWord K cl) := ⟨f__law_word, _, ok__law_word F__law_word T, b__law_word, k__law_word, PySem.W.mg_of X G a__law_word⟩
  have O__law_rule : Own l.prog w K mg base true 1 "_law_rule" ["_law_more"] (spRuleL) := ⟨f__law_rule, _, ok__law_rule F__law_rule T, b__law_rule, k__law_rule, PySem.W.mg_of X G a__law_rule⟩
  have O__law_home : Own l.prog w K mg base true 1 "_law_home" ["_law_rule_here", "_law_key", "_law_size"] (spHomeL) := ⟨f__law_home, _, ok__law_home F__law_home T, b__law_home, k__law_home, PySem.W.mg_of X G a__law_home⟩
  have O__law_told : Own l.prog w K mg base true 7 "_law_told" ["_law_rule_here", "_law_size", "_law_many", "_law_limit"] (spTold7) := ⟨f__law_told, _, ok__law_told F__law_told T O_worst O__law_word, b__law_told, k__law_told, PySem.W.mg_of X G a__law_told⟩
  have O__law_ways : Own l.prog w K mg base true 2 "_law_ways" ["_law_rule_here", "_law_size", "_law_keys_here"] (spWaysF) := ⟨f__law_ways, _, ok__law_ways F__law_ways T O__law_home, b__law_ways, k__law_ways, PySem.W.mg_of X G a__law_ways⟩
  have O__law_choices : Own l.prog w K mg base true 1 "_law_choices" ["_law_limit", "_law_many"] (spChoices) := ⟨f__law_choices, _, ok__law_choices F__law_choices T, b__law_choices, k__law_choices, PySem.W.mg_of X G a__law_choices⟩
  exact ok_law F_law T O__law_cell O__law_drawn O__law_rule O__law_told O__law_ways O__law_choices
end S70
theorem PySem.W.Fast.tw15418528371832129665 : True := trivial
theorem PySem.W.Fast.tw4836656502470491249 : True := trivial
theorem PySem.W.Fast.tw17660206084065208037 : True := trivial
theorem PySem.W.Fast.tw15473511200838384316 : True := trivial
theorem PySem.W.Fast.tw5579152283110233258 : True := trivial
theorem PySem.W.Fast.tw9770937884843410602 : True := trivial
theorem PySem.W.Fast.tw6986771431518457898 : True := trivial
theorem PySem.W.Fast.tw9655843753049328888 : True := trivial
theorem PySem.W.Fast.tw14178367818313270883 : True := trivial
theorem PySem.W.Fast.tw520544061877394545 : True := trivial
theorem PySem.W.Fast.tw3839802485104759183 : True := trivial
theorem PySem.W.Fast.tw8531409164847956687 : True := trivial
theorem PySem.W.Fast.tw18238560122530322201 : True := trivial
theorem PySem.W.Fast.tw11884990464181035880 : True := trivial
theorem PySem.W.Fast.tw18437454943264048816 : True := trivial
theorem PySem.W.Fast.tw9490086929256075969 : True := trivial
theorem PySem.W.Fast.tw12297007372267053169 : True := trivial
theorem PySem.W.Fast.tw7516961036168293930 : True := trivial
theorem PySem.W.Fast.tw376825013270540912 : True := trivial
theorem PySem.W.Fast.tw8585395707907958255 : True := trivial
theorem PySem.W.Fast.tw8296234386314731561 : True := trivial
theorem PySem.W.Fast.tw5558674026146655718 : True := trivial
theorem PySem.W.Fast.tw14173056896637884265 : True := trivial
theorem PySem.W.Fast.tw4085322802059115416 : True := trivial
theorem PySem.W.Fast.tw2311028734662331911 : True := trivial
theorem PySem.W.Fast.tw3387944313342987024 : True := trivial
theorem PySem.W.Fast.tw13045854987419180405 : True := trivial
theorem PySem.W.Fast.tw1008287702174150670 : True := trivial
theorem PySem.W.Fast.tw8805147307764889252 : True := trivial
theorem PySem.W.Fast.tw12489580471283928914 : True := trivial
theorem PySem.W.Fast.tw4677337063467961208 : True := trivial
theorem PySem.W.Fast.tw8844762818833440774 : True := trivial
theorem PySem.W.Fast.tw15799381773678572284 : True := trivial
theorem PySem.W.Fast.tw13472813789397025811 : True := trivial
theorem PySem.W.Fast.tw8165422807865908613 : True := trivial
theorem PySem.W.Fast.tw5431678070448311844 : True := trivial
theorem PySem.W.Fast.tw6710533090200310415 : True := trivial
theorem PySem.W.Fast.tw3249100481431748242 : True := trivial
theorem PySem.W.Fast.tw3764076524381165624 : True := trivial
theorem PySem.W.Fast.tw10460835847571420934 : True := trivial
theorem PySem.W.Fast.tw6210278904249656848 : True := trivial
theorem PySem.W.Fast.tw5537505495424432638 : True := trivial
theorem PySem.W.Fast.tw17468611961764031164 : True := trivial
theorem PySem.W.Fast.tw6049036640192504936 : True := trivial
theorem PySem.W.Fast.tw18206965321689400637 : True := trivial
theorem PySem.W.Fast.tw9913873118054758823 : True := trivial
theorem PySem.W.Fast.tw6541102701273664126 : True := trivial
theorem PySem.W.Fast.tw18180147062329750806 : True := trivial
theorem PySem.W.Fast.tw107834261614945665 : True := trivial
theorem PySem.W.Fast.tw104610414910197408 : True := trivial
theorem PySem.W.Fast.tw5389187943916030505 : True := trivial
theorem PySem.W.Fast.tw17478277215978713157 : True := trivial
theorem PySem.W.Fast.tw5550759507872605101 : True := trivial
theorem PySem.W.Fast.tw106619380358177505 : True := trivial
theorem PySem.W.Fast.tw17712733886110171778 : True := trivial
theorem PySem.W.Fast.tw16338240498139324528 : True := trivial
theorem PySem.W.Fast.tw13792623696494163979 : True := trivial
theorem PySem.W.Fast.tw2480843328799433955 : True := trivial
theorem PySem.W.Fast.tw8931040894421786997 : True := trivial
theorem PySem.W.Fast.tw15092478859254763107 : True := trivial
theorem PySem.W.Fast.tw2618066159867207922 : True := trivial
theorem PySem.W.Fast.tw13928889854962998344 : True := trivial
theorem PySem.W.Fast.tw16306787825614123466 : True := trivial
theorem PySem.W.Fast.tw15422210466008629008 : True := trivial
theorem PySem.W.Fast.tw12083618269573436708 : True := trivial
theorem PySem.W.Fast.tw13837754803228465808 : True := trivial
theorem PySem.W.Fast.tw6791226724568569073 : True := trivial
theorem PySem.W.Fast.tw6600462152236580088 : True := trivial
theorem PySem.W.Fast.tw17766908904111155274 : True := trivial
theorem PySem.W.Fast.tw10769547267140539769 : True := trivial
theorem PySem.W.Fast.tw13910442058442581941 : True := trivial
theorem PySem.W.Fast.tw3142191019898746979 : True := trivial
theorem PySem.W.Fast.tw4388129254268702861 : True := trivial
theorem PySem.W.Fast.tw10629404770731568955 : True := trivial
theorem PySem.W.Fast.tw13979434361816122441 : True := trivial
theorem PySem.W.Fast.tw6981036432064290836 : True := trivial
theorem PySem.W.Fast.tw3783471447273801150 : True := trivial
theorem PySem.W.Fast.tw9892381554061112609 : True := trivial
theorem PySem.W.Fast.tw11389502760697095649 : True := trivial
theorem PySem.W.Fast.tw4126155330275137790 : True := trivial
theorem PySem.W.Fast.tw10084366568046875893 : True := trivial
theorem PySem.W.Fast.tw15922802691864538110 : True := trivial
theorem PySem.W.Fast.tw100273543099767363 : True := trivial
theorem PySem.W.Fast.tw8199622839048751500 : True := trivial
theorem PySem.W.Fast.tw13999400132692238460 : True := trivial
theorem PySem.W.Fast.tw11639078818400994240 : True := trivial
theorem PySem.W.Fast.tw4934752033749939476 : True := trivial
theorem PySem.W.Fast.tw14418636660586238933 : True := trivial
theorem PySem.W.Fast.tw13530148988033690702 : True := trivial
theorem PySem.W.Fast.tw13362286904633708912 : True := trivial
theorem PySem.W.Fast.tw5098428706426579937 : True := trivial
theorem PySem.W.Fast.tw13811920209158539696 : True := trivial
theorem PySem.W.Fast.tw2338884586083618720 : True := trivial
theorem PySem.W.Fast.tw4720782296175929889 : True := trivial
theorem PySem.W.Fast.tw14025184039911585904 : True := trivial
theorem PySem.W.Fast.tw11204390196623946852 : True := trivial
theorem PySem.W.Fast.tw5846867642603584612 : True := trivial
theorem PySem.W.Fast.tw15151309604665866247 : True := trivial
theorem PySem.W.Fast.tw76314205890051271 : True := trivial
theorem PySem.W.Fast.tw1144090989565103350 : True := trivial
theorem PySem.W.Fast.tw16031207002515115331 : True := trivial
theorem PySem.W.Fast.tw6574313497626403743 : True := trivial
theorem PySem.W.Fast.tw1862020702968271213 : True := trivial
theorem PySem.W.Fast.tw5184323696352633668 : True := trivial
theorem PySem.W.Fast.tw5535621715247148815 : True := trivial
theorem PySem.W.Fast.tw12403299629252146315 : True := trivial
theorem PySem.W.Fast.tw13718029776542317038 : True := trivial
theorem PySem.W.Fast.tw16922952028582728323 : True := trivial
theorem PySem.W.Fast.tw13518495647088185843 : True := trivial
theorem PySem.W.Fast.tw3753828688896142617 : True := trivial
theorem PySem.W.Fast.tw10862999254126368784 : True := trivial
theorem PySem.W.Fast.tw9168879596277982667 : True := trivial
theorem PySem.W.Fast.tw7320312142721716743 : True := trivial
theorem PySem.W.Fast.tw13541753098624582646 : True := trivial
theorem PySem.W.Fast.tw15603923686073801790 : True := trivial
theorem PySem.W.Fast.tw9933596870912644448 : True := trivial
theorem PySem.W.Fast.tw3206515964073577047 : True := trivial
theorem PySem.W.Fast.tw4911561509702352644 : True := trivial
theorem PySem.W.Fast.tw7301290740641269445 : True := trivial
theorem PySem.W.Fast.tw4122918547931579122 : True := trivial
theorem PySem.W.Fast.tw2529861868827916523 : True := trivial
theorem PySem.W.Fast.tw14457611987231333186 : True := trivial
theorem PySem.W.Fast.tw3115668140579226090 : True := trivial
theorem PySem.W.Fast.tw2380859511415929723 : True := trivial
theorem PySem.W.Fast.tw12961822794365082546 : True := trivial
theorem PySem.W.Fast.tw15082643768802533668 : True := trivial
theorem PySem.W.Fast.tw9890105200283938738 : True := trivial
theorem PySem.W.Fast.tw18243004180447064513 : True := trivial
theorem PySem.W.Fast.tw15420030288949479830 : True := trivial
theorem PySem.W.Fast.tw4472047706877244866 : True := trivial
theorem PySem.W.Fast.tw6439475468382065749 : True := trivial
theorem PySem.W.Fast.tw3877352629767032712 : True := trivial
theorem PySem.W.Fast.tw3813398095717866667 : True := trivial
theorem PySem.W.Fast.tw10518107997050195695 : True := trivial
theorem PySem.W.Fast.tw3690688150970415697 : True := trivial
theorem PySem.W.Fast.tw1266690854039954757 : True := trivial
theorem PySem.W.Fast.tw441040726787934517 : True := trivial
theorem PySem.W.Fast.tw15048783512814498678 : True := trivial
theorem PySem.W.Fast.tw5526891109933580796 : True := trivial
theorem PySem.W.Fast.tw7974961016096466045 : True := trivial
theorem PySem.W.Fast.tw9120800872301257512 : True := trivial
theorem PySem.W.Fast.tw18316720364043128350 : True := trivial
theorem PySem.W.Fast.tw10507854441940342757 : True := trivial
theorem PySem.W.Fast.tw8209184273490348200 : True := trivial
theorem PySem.W.Fast.tw10276426566893739979 : True := trivial
theorem PySem.W.Fast.tw3610198629933332176 : True := trivial
theorem PySem.W.Fast.tw8042094674426310199 : True := trivial
theorem PySem.W.Fast.tw18381884902719802637 : True := trivial
theorem PySem.W.Fast.tw9346692869943079910 : True := trivial
theorem PySem.W.Fast.tw2249571194559689893 : True := trivial
theorem PySem.W.Fast.tw4614888343338048468 : True := trivial
theorem PySem.W.Fast.tw13645438744363240116 : True := trivial
theorem PySem.W.Fast.tw12705722535730449676 : True := trivial
theorem PySem.W.Fast.tw10686358092453432908 : True := trivial
theorem PySem.W.Fast.tw2849043196118713570 : True := trivial
theorem PySem.W.Fast.tw13173282375951857722 : True := trivial
theorem PySem.W.Fast.tw10940388006107544313 : True := trivial
theorem PySem.W.Fast.tw5093067208738788939 : True := trivial
theorem PySem.W.Fast.tw16861484493330507955 : True := trivial
theorem PySem.W.Fast.tw4763321902329849047 : True := trivial
theorem PySem.W.Fast.tw18441414417221231961 : True := trivial
theorem PySem.W.Fast.tw6371797893505968448 : True := trivial
theorem PySem.W.Fast.tw10019169072463207513 : True := trivial
theorem PySem.W.Fast.tw18356507931812486960 : True := trivial
theorem PySem.W.Fast.tw944861745388791487 : True := trivial
theorem PySem.W.Fast.tw1125394423010031342 : True := trivial
theorem PySem.W.Fast.tw5863457249312701511 : True := trivial
theorem PySem.W.Fast.tw13559853970842773029 : True := trivial
theorem PySem.W.Fast.tw18357294678088626157 : True := trivial
theorem PySem.W.Fast.tw4775398568530251128 : True := trivial
theorem PySem.W.Fast.tw5524504037343825966 : True := trivial
theorem PySem.W.Fast.tw14852011596584585846 : True := trivial
theorem PySem.W.Fast.tw15535172956620387624 : True := trivial
theorem PySem.W.Fast.tw9728248413176440025 : True := trivial
theorem PySem.W.Fast.tw11327621430683734963 : True := trivial
theorem PySem.W.Fast.tw7853917134703047281 : True := trivial
theorem PySem.W.Fast.tw493295690612431944 : True := trivial
theorem PySem.W.Fast.tw2256057157371711203 : True := trivial
theorem PySem.W.Fast.tw7444731018420941315 : True := trivial
theorem PySem.W.Fast.tw16524349178028000215 : True := trivial
theorem PySem.W.Fast.tw17525989867092388910 : True := trivial
theorem PySem.W.Fast.tw3010697485061972557 : True := trivial
theorem PySem.W.Fast.tw10025723348795957094 : True := trivial
theorem PySem.W.Fast.tw1873084218105455374 : True := trivial
theorem PySem.W.Fast.tw10034529668161419279 : True := trivial
theorem PySem.W.Fast.tw12660309268612994308 : True := trivial
theorem PySem.W.Fast.tw3240193860449584138 : True := trivial
theorem PySem.W.Fast.tw8903565824540162759 : True := trivial
theorem PySem.W.Fast.tw15525997753558901265 : True := trivial
theorem PySem.W.Fast.tw1924550312882796405 : True := trivial
theorem PySem.W.Fast.tw13524919866692063101 : True := trivial
theorem PySem.W.Fast.tw15762926783836439511 : True := trivial
theorem PySem.W.Fast.tw9512872416319625937 : True := trivial
theorem PySem.W.Fast.tw16819621437408801092 : True := trivial
theorem PySem.W.Fast.tw12159662277363347829 : True := trivial
theorem PySem.W.Fast.tw1893582012013431277 : True := trivial
theorem PySem.W.Fast.tw18361862571307431256 : True := trivial
theorem PySem.W.Fast.tw10997324670063140542 : True := trivial
theorem PySem.W.Fast.tw18427704614732775125 : True := trivial
theorem PySem.W.Fast.tw10486590483551488740 : True := trivial
theorem PySem.W.Fast.tw13048776698391028707 : True := trivial
theorem PySem.W.Fast.tw17413371865621782290 : True := trivial
theorem PySem.W.Fast.tw16692396469458618000 : True := trivial
theorem PySem.W.Fast.tw3647443484519330101 : True := trivial
theorem PySem.W.Fast.tw6410046091368892542 : True := trivial
theorem PySem.W.Fast.tw6434317737824096237 : True := trivial
theorem PySem.W.Fast.tw10166281313944798047 : True := trivial
theorem PySem.W.Fast.tw17150007313434277022 : True := trivial
theorem PySem.W.Fast.tw7839415145393099427 : True := trivial
theorem PySem.W.Fast.tw4353897412304181497 : True := trivial
theorem PySem.W.Fast.tw16608128882990631114 : True := trivial
theorem PySem.W.Fast.tw5142895855841033284 : True := trivial
theorem PySem.W.Fast.tw10387344921516427976 : True := trivial
theorem PySem.W.Fast.tw7136263471285689648 : True := trivial
theorem PySem.W.Fast.tw876412558600888710 : True := trivial
theorem PySem.W.Fast.tw17309582586266475813 : True := trivial
theorem PySem.W.Fast.tw12024727949047866507 : True := trivial
theorem PySem.W.Fast.tw12132839205549004931 : True := trivial
theorem PySem.W.Fast.tw11412365486276078419 : True := trivial
theorem PySem.W.Fast.tw17533206537696625306 : True := trivial
theorem PySem.W.Fast.tw991621336458305362 : True := trivial
theorem PySem.W.Fast.tw2702670006708841601 : True := trivial
theorem PySem.W.Fast.tw10491888072938381117 : True := trivial
theorem PySem.W.Fast.tw10276668454944862207 : True := trivial
theorem PySem.W.Fast.tw5449909194443997882 : True := trivial
theorem PySem.W.Fast.tw15894172441671807263 : True := trivial
theorem PySem.W.Fast.tw10048534850012397030 : True := trivial
theorem PySem.W.Fast.tw16125130234423509350 : True := trivial
theorem PySem.W.Fast.tw1010772261889418224 : True := trivial
theorem PySem.W.Fast.tw8104715239776514857 : True := trivial
theorem PySem.W.Fast.tw5411189040747509375 : True := trivial
theorem PySem.W.Fast.tw8808142996908242964 : True := trivial
theorem PySem.W.Fast.tw2260025456175243306 : True := trivial
theorem PySem.W.Fast.tw15438042621045036489 : True := trivial
theorem PySem.W.Fast.tw14888627312664911826 : True := trivial
theorem PySem.W.Fast.tw8112107229395252280 : True := trivial
theorem PySem.W.Fast.tw7979832977457207873 : True := trivial
theorem PySem.W.Fast.tw5981034046106345791 : True := trivial
theorem PySem.W.Fast.tw15681993688656793660 : True := trivial
open PySem PySem.W PyProof.Rows
set_option maxRecDepth 100000 in
set_option maxHeartbeats 0 in
theorem PySem.Challenge.cw_strewn_k70_whole_worst_holds : PySem.Challenge.rw_strewn_k70_whole_worst.Holds := by
  w_on; o_law; k_head; (case hw => w_witness2)
  k_fill
  refine L2.walk_of (l := PySem.Challenge.rw_strewn_k70_whole_worst) (c := true) (n := 63) (k := 8) (x := "_law_script") (CX := fun w => L2.CX1 (PySem.Challenge.rw_strewn_k70_whole_worst).prog w) (sp := fun w => SC.spLaw _) rfl (by decide) rfl ⟨by decide, by decide⟩ (fun w h Y => PySem.W.kIn_of Y) ?F (fun _ _ a ns hl _ hS => ⟨a, ns, rfl, hS, hl, fun _ => rfl⟩) (fun _ _ _ _ _ z => L2.E0.no z)
  case F =>
    intro w mg fa h KX G hmg
    refine' S70.all_mk KX G hmg ?a_StrewError ?a_BadRule ?a_BadKey ?a_BadSize ?a_Full ?a_TooMany ?z_isinstance ?z_bool ?z_int ?z_len ?z_tuple ?z_str ?z_all ?z_sum ?z_max ?z_min ?z_range ?z_list ?z_sorted ?z_zip ?z_set ?z_ValueError ?v_MOST_KEY ?v_LEAST_SIZE ?v_MOST_SIZE ?v_MOST_FACTOR ?v_LEAST_BITS ?v_MOST_BITS ?v_MOST_TOLD ?v_LEAST_TOLD_COUNT ?v_MOST_TOLD_COUNT ?v_MOST_LIMIT ?v_MOST_DEALINGS ?a_power ?l_power ?c_power ?k_power ?a_is_whole ?l_is_whole ?c_is_whole ?k_is_whole ?a_is_times_rule ?l_is_times_rule ?c_is_times_rule ?k_is_times_rule ?a_is_high_rule ?l_is_high_rule ?c_is_high_rule ?k_is_high_rule ?a_is_told_rule ?l_is_told_rule ?c_is_told_rule ?k_is_told_rule ?a_is_rule ?l_is_rule ?c_is_rule ?k_is_rule ?a_check_rule ?l_check_rule ?c_check_rule ?k_check_rule ?a_check_key ?l_check_key ?c_check_key ?k_check_key ?a_check_keys ?l_check_keys ?c_check_keys ?k_check_keys ?a_check_size ?l_check_size ?c_check_size ?k_check_size ?a_check_count ?l_check_count ?c_check_count ?k_check_count ?a_reckon_home ?l_reckon_home ?c_reckon_home ?k_reckon_home ?a_chains ?l_chains ?c_chains ?k_chains ?a_dealt_further ?l_dealt_further ?c_dealt_further ?k_dealt_further ?a_all_dealings ?l_all_dealings ?c_all_dealings ?k_all_dealings ?a_ways_of_dealing ?l_ways_of_dealing ?c_ways_of_dealing ?k_ways_of_dealing ?a_worst ?l_worst ?c_worst ?k_worst ?a__law_cell ?l__law_cell ?c__law_cell ?k__law_cell ?a__law_drawn ?l__law_drawn ?c__law_drawn ?k__law_drawn ?a__law_word ?l__law_word ?c__law_word ?k__law_word ?a__law_rule ?l__law_rule ?c__law_rule ?k__law_rule ?a__law_home ?l__law_home ?c__law_home ?k__law_home ?a__law_told ?l__law_told ?c__law_told ?k__law_told ?a__law_ways ?l__law_ways ?c__law_ways ?k__law_ways ?a__law_choices ?l__law_choices ?c__law_choices ?k__law_choices ?a_law ?l_law ?c_law ?k_law ?x_StrewError ?x_BadRule ?x_BadKey ?x_BadSize ?x_Full ?x_TooMany ?ga0 ?na0 ?ca0 ?mo0 ?mb0 ?hd0 ?ex0 ?q00 ?q01 ?q02 ?q03 ?q04 ?ve0 ?ga1 ?na1 ?ca1 ?mo1 ?mb1 ?hd1 ?ex1 ?q10 ?q11 ?q12 ?q13 ?q14 ?ve1 ?ga2 ?na2 ?ca2 ?mo2 ?mb2 ?hd2 ?ex2 ?q20 ?q21 ?q22 ?q23 ?q24 ?ve2 ?ga3 ?na3 ?ca3 ?mo3 ?mb3 ?hd3 ?ex3 ?q30 ?q31 ?q32 ?q33 ?q34 ?ve3 ?ga4 ?na4 ?ca4 ?mo4 ?mb4 ?hd4 ?ex4 ?q40 ?q41 ?q42 ?q43 ?q44 ?ve4 ?cg ?ct
    (case a_StrewError => first | k_is | kit_is | kernel_rfl)
    (case a_BadRule => first | k_is | kit_is | kernel_rfl)
    (case a_BadKey => first | k_is | kit_is | kernel_rfl)
    (case a_BadSize => first | k_is | kit_is | kernel_rfl)
    (case a_Full => first | k_is | kit_is | kernel_rfl)
    (case a_TooMany => first | k_is | kit_is | kernel_rfl)
    (case z_isinstance => first | k_is | kit_is | kernel_rfl)
    (case z_bool => first | k_is | kit_is | kernel_rfl)
    (case z_int => first | k_is | kit_is | kernel_rfl)
    (case z_len => first | k_is | kit_is | kernel_rfl)
    (case z_tuple => first | k_is | kit_is | kernel_rfl)
    (case z_str => first | k_is | kit_is | kernel_rfl)
    (case z_all => first | k_is | kit_is | kernel_rfl)
    (case z_sum => first | k_is | kit_is | kernel_rfl)
    (case z_max => first | k_is | kit_is | kernel_rfl)
    (case z_min => first | k_is | kit_is | kernel_rfl)
    (case z_range => first | k_is | kit_is | kernel_rfl)
    (case z_list => first | k_is | kit_is | kernel_rfl)
    (case z_sorted => first | k_is | kit_is | kernel_rfl)
    (case z_zip => first | k_is | kit_is | kernel_rfl)
    (case z_set => first | k_is | kit_is | kernel_rfl)
    (case z_ValueError => first | k_is | kit_is | kernel_rfl)
    (case v_MOST_KEY => first | k_is | kit_is | kernel_rfl)
    (case v_LEAST_SIZE => first | k_is | kit_is | kernel_rfl)
    (case v_MOST_SIZE => first | k_is | kit_is | kernel_rfl)
    (case v_MOST_FACTOR => first | k_is | kit_is | kernel_rfl)
    (case v_LEAST_BITS => first | k_is | kit_is | kernel_rfl)
    (case v_MOST_BITS => first | k_is | kit_is | kernel_rfl)
    (case v_MOST_TOLD => first | k_is | kit_is | kernel_rfl)
    (case v_LEAST_TOLD_COUNT => first | k_is | kit_is | kernel_rfl)
    (case v_MOST_TOLD_COUNT => first | k_is | kit_is | kernel_rfl)
    (case v_MOST_LIMIT => first | k_is | kit_is | kernel_rfl)
    (case v_MOST_DEALINGS => first | k_is | kit_is | kernel_rfl)
    (case a_power => first | k_is | kit_is | kernel_rfl)
    (case l_power => first | k_is | kit_is | kernel_rfl)
    (case c_power => first | k_is | kit_is | kernel_rfl)
    (case k_power => first | k_is | kit_is | kernel_rfl)
    (case a_is_whole => first | k_is | kit_is | kernel_rfl)
    (case l_is_whole => first | k_is | kit_is | kernel_rfl)
    (case c_is_whole => first | k_is | kit_is | kernel_rfl)
    (case k_is_whole => first | k_is | kit_is | kernel_rfl)
    (case a_is_times_rule => first | k_is | kit_is | kernel_rfl)
    (case l_is_times_rule => first | k_is | kit_is | kernel_rfl)
    (case c_is_times_rule => first | k_is | kit_is | kernel_rfl)
    (case k_is_times_rule => first | k_is | kit_is | kernel_rfl)
    (case a_is_high_rule => first | k_is | kit_is | kernel_rfl)
    (case l_is_high_rule => first | k_is | kit_is | kernel_rfl)
    (case c_is_high_rule => first | k_is | kit_is | kernel_rfl)
    (case k_is_high_rule => first | k_is | kit_is | kernel_rfl)
    (case a_is_told_rule => first | k_is | kit_is | kernel_rfl)
    (case l_is_told_rule => first | k_is | kit_is | kernel_rfl)
    (case c_is_told_rule => first | k_is | kit_is | kernel_rfl)
    (case k_is_told_rule => first | k_is | kit_is | kernel_rfl)
    (case a_is_rule => first | k_is | kit_is | kernel_rfl)
    (case l_is_rule => first | k_is | kit_is | kernel_rfl)
    (case c_is_rule => first | k_is | kit_is | kernel_rfl)
    (case k_is_rule => first | k_is | kit_is | kernel_rfl)
    (case a_check_rule => first | k_is | kit_is | kernel_rfl)
    (case l_check_rule => first | k_is | kit_is | kernel_rfl)
    (case c_check_rule => first | k_is | kit_is | kernel_rfl)
    (case k_check_rule => first | k_is | kit_is | kernel_rfl)
    (case a_check_key => first | k_is | kit_is | kernel_rfl)
    (case l_check_key => first | k_is | kit_is | kernel_rfl)
    (case c_check_key => first | k_is | kit_is | kernel_rfl)
    (case k_check_key => first | k_is | kit_is | kernel_rfl)
    (case a_check_keys => first | k_is | kit_is | kernel_rfl)
    (case l_check_keys => first | k_is | kit_is | kernel_rfl)
    (case c_check_keys => first | k_is | kit_is | kernel_rfl)
    (case k_check_keys => first | k_is | kit_is | kernel_rfl)
    (case a_check_size => first | k_is | kit_is | kernel_rfl)
    (case l_check_size => first | k_is | kit_is | kernel_rfl)
    (case c_check_size => first | k_is | kit_is | kernel_rfl)
    (case k_check_size => first | k_is | kit_is | kernel_rfl)
    (case a_check_count => first | k_is | kit_is | kernel_rfl)
    (case l_check_count => first | k_is | kit_is | kernel_rfl)
    (case c_check_count => first | k_is | kit_is | kernel_rfl)
    (case k_check_count => first | k_is | kit_is | kernel_rfl)
    (case a_reckon_home => first | k_is | kit_is | kernel_rfl)
    (case l_reckon_home => first | k_is | kit_is | kernel_rfl)
    (case c_reckon_home => first | k_is | kit_is | kernel_rfl)
    (case k_reckon_home => first | k_is | kit_is | kernel_rfl)
    (case a_chains => first | k_is | kit_is | kernel_rfl)
    (case l_chains => first | k_is | kit_is | kernel_rfl)
    (case c_chains => first | k_is | kit_is | kernel_rfl)
    (case k_chains => first | k_is | kit_is | kernel_rfl)
    (case a_dealt_further => first | k_is | kit_is | kernel_rfl)
    (case l_dealt_further => first | k_is | kit_is | kernel_rfl)
    (case c_dealt_further => first | k_is | kit_is | kernel_rfl)
    (case k_dealt_further => first | k_is | kit_is | kernel_rfl)
    (case a_all_dealings => first | k_is | kit_is | kernel_rfl)
    (case l_all_dealings => first | k_is | kit_is | kernel_rfl)
    (case c_all_dealings => first | k_is | kit_is | kernel_rfl)
    (case k_all_dealings => first | k_is | kit_is | kernel_rfl)
    (case a_ways_of_dealing => first | k_is | kit_is | kernel_rfl)
    (case l_ways_of_dealing => first | k_is | kit_is | kernel_rfl)
    (case c_ways_of_dealing => first | k_is | kit_is | kernel_rfl)
    (case k_ways_of_dealing => first | k_is | kit_is | kernel_rfl)
    (case a_worst => first | k_is | kit_is | kernel_rfl)
    (case l_worst => first | k_is | kit_is | kernel_rfl)
    (case c_worst => first | k_is | kit_is | kernel_rfl)
    (case k_worst => first | k_is | kit_is | kernel_rfl)
    (case a__law_cell => first | k_is | kit_is | kernel_rfl)
    (case l__law_cell => first | k_is | kit_is | kernel_rfl)
    (case c__law_cell => first | k_is | kit_is | kernel_rfl)
    (case k__law_cell => first | k_is | kit_is | kernel_rfl)
    (case a__law_drawn => first | k_is | kit_is | kernel_rfl)
    (case l__law_drawn => first | k_is | kit_is | kernel_rfl)
    (case c__law_drawn => first | k_is | kit_is | kernel_rfl)
    (case k__law_drawn => first | k_is | kit_is | kernel_rfl)
    (case a__law_word => first | k_is | kit_is | kernel_rfl)
    (case l__law_word => first | k_is | kit_is | kernel_rfl)
    (case c__law_word => first | k_is | kit_is | kernel_rfl)
    (case k__law_word => first | k_is | kit_is | kernel_rfl)
    (case a__law_rule => first | k_is | kit_is | kernel_rfl)
    (case l__law_rule => first | k_is | kit_is | kernel_rfl)
    (case c__law_rule => first | k_is | kit_is | kernel_rfl)
    (case k__law_rule => first | k_is | kit_is | kernel_rfl)
    (case a__law_home => first | k_is | kit_is | kernel_rfl)
    (case l__law_home => first | k_is | kit_is | kernel_rfl)
    (case c__law_home => first | k_is | kit_is | kernel_rfl)
    (case k__law_home => first | k_is | kit_is | kernel_rfl)
    (case a__law_told => first | k_is | kit_is | kernel_rfl)
    (case l__law_told => first | k_is | kit_is | kernel_rfl)
    (case c__law_told => first | k_is | kit_is | kernel_rfl)
    (case k__law_told => first | k_is | kit_is | kernel_rfl)
    (case a__law_ways => first | k_is | kit_is | kernel_rfl)
    (case l__law_ways => first | k_is | kit_is | kernel_rfl)
    (case c__law_ways => first | k_is | kit_is | kernel_rfl)
    (case k__law_ways => first | k_is | kit_is | kernel_rfl)
    (case a__law_choices => first | k_is | kit_is | kernel_rfl)
    (case l__law_choices => first | k_is | kit_is | kernel_rfl)
    (case c__law_choices => first | k_is | kit_is | kernel_rfl)
    (case k__law_choices => first | k_is | kit_is | kernel_rfl)
    (case a_law => first | k_is | kit_is | kernel_rfl)
    (case l_law => first | k_is | kit_is | kernel_rfl)
    (case c_law => first | k_is | kit_is | kernel_rfl)
    (case k_law => first | k_is | kit_is | kernel_rfl)
    (case x_StrewError => first | k_is | kit_is | kernel_rfl)
    (case x_BadRule => first | k_is | kit_is | kernel_rfl)
    (case x_BadKey => first | k_is | kit_is | kernel_rfl)
    (case x_BadSize => first | k_is | kit_is | kernel_rfl)
    (case x_Full => first | k_is | kit_is | kernel_rfl)
    (case x_TooMany => first | k_is | kit_is | kernel_rfl)
    (case ga0 => first | k_is | kit_is | kernel_rfl)
    (case na0 => first | k_is | kit_is | kernel_rfl)
    (case ca0 => first | k_is | kit_is | kernel_rfl)
    (case mo0 => first | k_is | kit_is | kernel_rfl)
    (case mb0 => first | k_is | kit_is | kernel_rfl)
    (case hd0 => first | k_is | kit_is | kernel_rfl)
    (case ex0 => first | k_is | kit_is | kernel_rfl)
    (case q00 => first | k_is | kit_is | kernel_rfl)
    (case q01 => first | k_is | kit_is | kernel_rfl)
    (case q02 => first | k_is | kit_is | kernel_rfl)
    (case q03 => first | k_is | kit_is | kernel_rfl)
    (case q04 => first | k_is | kit_is | kernel_rfl)
    (case ve0 => first | k_is | kit_is | kernel_rfl)
    (case ga1 => first | k_is | kit_is | kernel_rfl)
    (case na1 => first | k_is | kit_is | kernel_rfl)
    (case ca1 => first | k_is | kit_is | kernel_rfl)
    (case mo1 => first | k_is | kit_is | kernel_rfl)
    (case mb1 => first | k_is | kit_is | kernel_rfl)
    (case hd1 => first | k_is | kit_is | kernel_rfl)
    (case ex1 => first | k_is | kit_is | kernel_rfl)
    (case q10 => first | k_is | kit_is | kernel_rfl)
    (case q11 => first | k_is | kit_is | kernel_rfl)
    (case q12 => first | k_is | kit_is | kernel_rfl)
    (case q13 => first | k_is | kit_is | kernel_rfl)
    (case q14 => first | k_is | kit_is | kernel_rfl)
    (case ve1 => first | k_is | kit_is | kernel_rfl)
    (case ga2 => first | k_is | kit_is | kernel_rfl)
    (case na2 => first | k_is | kit_is | kernel_rfl)
    (case ca2 => first | k_is | kit_is | kernel_rfl)
    (case mo2 => first | k_is | kit_is | kernel_rfl)
    (case mb2 => first | k_is | kit_is | kernel_rfl)
    (case hd2 => first | k_is | kit_is | kernel_rfl)
    (case ex2 => first | k_is | kit_is | kernel_rfl)
    (case q20 => first | k_is | kit_is | kernel_rfl)
    (case q21 => first | k_is | kit_is | kernel_rfl)
    (case q22 => first | k_is | kit_is | kernel_rfl)
    (case q23 => first | k_is | kit_is | kernel_rfl)
    (case q24 => first | k_is | kit_is | kernel_rfl)
    (case ve2 => first | k_is | kit_is | kernel_rfl)
    (case ga3 => first | k_is | kit_is | kernel_rfl)
    (case na3 => first | k_is | kit_is | kernel_rfl)
    (case ca3 => first | k_is | kit_is | kernel_rfl)
    (case mo3 => first | k_is | kit_is | kernel_rfl)
    (case mb3 => first | k_is | kit_is | kernel_rfl)
    (case hd3 => first | k_is | kit_is | kernel_rfl)
    (case ex3 => first | k_is | kit_is | kernel_rfl)
    (case q30 => first | k_is | kit_is | kernel_rfl)
    (case q31 => first | k_is | kit_is | kernel_rfl)
    (case q32 => first | k_is | kit_is | kernel_rfl)
    (case q33 => first | k_is | kit_is | kernel_rfl)
    (case q34 => first | k_is | kit_is | kernel_rfl)
    (case ve3 => first | k_is | kit_is | kernel_rfl)
    (case ga4 => first | k_is | kit_is | kernel_rfl)
    (case na4 => first | k_is | kit_is | kernel_rfl)
    (case ca4 => first | k_is | kit_is | kernel_rfl)
    (case mo4 => first | k_is | kit_is | kernel_rfl)
    (case mb4 => first | k_is | kit_is | kernel_rfl)
    (case hd4 => first | k_is | kit_is | kernel_rfl)
    (case ex4 => first | k_is | kit_is | kernel_rfl)
    (case q40 => first | k_is | kit_is | kernel_rfl)
    (case q41 => first | k_is | kit_is | kernel_rfl)
    (case q42 => first | k_is | kit_is | kernel_rfl)
    (case q43 => first | k_is | kit_is | kernel_rfl)
    (case q44 => first | k_is | kit_is | kernel_rfl)
    (case ve4 => first | k_is | kit_is | kernel_rfl)
    (case cg => first | k_is | kit_is | kernel_rfl)
    (case ct => first | k_is | kit_is | kernel_rfl)
#print axioms PySem.Challenge.cw_strewn_k70_whole_worst_holds

