import PyProof.Rows.All
import Wide.All
import OpenK.AllK
import Wide.FinOn
import PyProof.StationsW
import PyProof.RulesAs
import Lean
import PyProof.EqAt
import PyProof.EqKinds
import PyProof.TupleCall
import PyProof.DictWalks
import PyProof.MinMaxWalk
import PyProof.ListRange
import PyProof.WalkInts
import PyProof.SeqI3
import PyProof.SliceList
import KE.KSortTup
import PySem.Challenge.RW_strewn_k60_whole_growing
set_option maxRecDepth 100000
namespace PySem
open Sem (wp)
noncomputable def RecAt (h : Heap) (e : Addr) (cls : Value) (vs : Array Value) : Prop := ∃ oe, h.get? e = some oe ∧ (oe.cls = cls ∧ oe.dict = none) ∧ oe.data = .fields vs
theorem RecAt.keep {h h' : Heap} {e : Addr} {cls : Value} {vs : Array Value} (x : RecAt h e cls vs) (k : ∀ o, h.get? e = some o → h'.get? e = some o) : RecAt h' e cls vs := let ⟨o, a, r⟩ := x; ⟨o, k o a, r⟩
theorem RecAt.no_field {h : Heap} {e b : Addr} {cls : Value} {vs : Array Value} (x : RecAt h e cls vs) {o : Obj} (hb : h.get? b = some o) (hn : ∀ ws, o.data ≠ .fields ws) : b ≠ e := fun q => by
 obtain ⟨oe, he, _, hd⟩ := x
 rw [q, he] at hb; cases hb; exact hn vs hd
theorem RecAt.set {h : Heap} {e : Addr} {cls : Value} {vs : Array Value} (x : RecAt h e cls vs) (i : Nat) (v : Value) : RecAt (h.update e (Obj.mapFields (·.setIfInBounds i v))) e cls (vs.setIfInBounds i v) := by
 obtain ⟨oe, he, hc, hd⟩ := x
 have hd' := Obj.data_mapFields hd (·.setIfInBounds i v)
 refine ⟨_, Heap.get?_update_self _ he (Obj.isFreed_of_fields hd'), ⟨(Obj.cls_mapFields _ _).trans hc.1, ?_⟩, hd'⟩
 obtain ⟨c, d, dt, sl⟩ := oe
 have hd2 : dt = .fields vs := hd
 subst hd2
 exact hc.2
theorem get_upd_ne {h : Heap} {e b : Addr} {f : Obj → Obj} {o : Obj} (hb : b ≠ e) (q : h.get? b = some o) : (h.update e f).get? b = some o := by
 rw [Heap.get?_update_other _ _ (Ne.symm hb)]; exact q
noncomputable def InAir (B h : Heap) (l : List Env) (e : Addr) (cls : Value) (f : Option Value) : Prop :=
 B.StaysIn h ∧ B.get? e = none ∧ h.FunFrames B l ∧ ∃ vs, RecAt h e cls vs ∧ vs[2]? = some .none ∧
  match f with
  | none => vs[1]? = some .none
  | some x => ∃ T ts c, vs[1]? = some (.ref T) ∧ B.get? T = none ∧ T ≠ e ∧ RecAt h T c ts ∧ ts[3]? = some x
theorem InAir.fewer {B h : Heap} {env : Env} {l : List Env} {e : Addr} {cls : Value} {f : Option Value} (x : InAir B h (env :: l) e cls f) : InAir B h l e cls f := by
 obtain ⟨a, b, ⟨_, _, c⟩, d⟩ := x; exact ⟨a, b, c, d⟩
section
variable {M : Model} {A : Around} {E : Value → Shared → Prop} {s : Shared}
theorem air_entry {B : Heap} {env : Env} {outer : List Env} {L e : Addr} {cls head : Value} {vs : Array Value} {hadNext : Bool} {Q : Unit → Shared → Prop}
  (hfr : A.frames = some (env :: outer)) (hf : env.frame = some L) (hB : B.StaysIn s.heap) (hl : s.heap.FunFrames B (env :: outer)) (he : RecAt s.heap e cls vs) (hen : B.get? e = none) (h1 : 1 < vs.size) (h2 : vs[2]? = some .none)
  (h : ∀ h', InAir B h' (env :: outer) e cls (some (rawInt L)) → s.heap.UpToSlots h' → Q () { s with heap := h' }) :
  wpAny M A (do let a ← frameOf env; let pl ← entryPlaceOf L hadNext; let b ← EntryCells.newEntry head a .none (rawInt L) .none pl; setField (.ref e) 1 b) Q E s := by
 refine wpAny_bind (wpAny_frameOf_fun hfr hl hf fun h₁ hs₁ => wpAny_bind (wpAny_entryPlaceOf fun pl hpl => ?_))
 unfold EntryCells.newEntry newFields
 refine wpAny_bind (wpAny_newObj_type ?_ (hpl.sizeOk5 _ _ _ _ _))
 have nf : ∀ b, b ∈ (env :: outer).filterMap (·.frame) → b ≠ e := fun b hm => by
  obtain ⟨_, o, ho, hn⟩ := hl.mem hm
  exact he.no_field ho hn
 have he₁ : RecAt h₁ e cls vs := he.keep fun o q => (hs₁.2.1 e fun hm => nf e hm rfl).trans q
 obtain ⟨oe, ge, ce, de⟩ := id he₁
 have hTe : h₁.objs.size ≠ e := Nat.ne_of_gt (Heap.lt_size ge)
 refine wpAny_setField (Heap.get?_push_of_some _ ge) de h1 ?_
 have keep : ∀ (x : Obj) b o, b ≠ e → h₁.get? b = some o → ((h₁.push x).update e (Obj.mapFields (·.setIfInBounds 1 (Value.ref h₁.objs.size)))).get? b = some o := fun x b o hb q => get_upd_ne hb (Heap.get?_push_of_some _ q)
 have kB : B.StaysIn h₁ := fun b o q => (hs₁.2.1 b fun hm => by rw [(hl.mem hm).1] at q; cases q).trans (hB b o q)
 refine h _ ⟨fun b o q => keep _ b o (fun z => by rw [z, hen] at q; cases q) (kB b o q), hen, hl.of_keeps fun b o hb hn => ?_, _, RecAt.set (he₁.keep fun o q => Heap.get?_push_of_some _ q) 1 _, ?_, h₁.objs.size, _, _, ?_, kB.fresh, hTe, ⟨_, get_upd_ne hTe (Heap.get?_push_size h₁ rfl), ⟨rfl, rfl⟩, rfl⟩, ?_⟩ fun b o hb hn => ?_
 ·obtain ⟨sl, q⟩ := hs₁.2.2 b o hb
  exact ⟨_, keep _ b _ (he.no_field hb hn) q, rfl⟩
 ·rw [Array.getElem?_setIfInBounds_ne (by decide)]; exact h2
 ·simp [h1]
 ·first | (simp; done) | (rcases hpl with rfl | ⟨_, _, _, _, _, _, _, rfl⟩ <;> simp)
 ·obtain ⟨sl, q⟩ := hs₁.2.2 b o hb
  exact ⟨sl, keep _ b _ (he.no_field hb hn) q⟩
theorem air_note {B : Heap} {env : Env} {outer : List Env} {L e : Addr} {cls : Value} {f : Option Value} {Q : Unit → Shared → Prop}
  (hfr : A.frames = some (env :: outer)) (hf : env.frame = some L) (x : InAir B s.heap (env :: outer) e cls f) (hx : f = none ∨ f = some .none ∨ f = some (rawInt L))
  (h : ∀ h', InAir B h' (env :: outer) e cls (some (rawInt L)) → s.heap.UpToSlots h' → Q () { s with heap := h' }) : wpAny M A (noteFrame (.ref e) env) Q E s := by
 obtain ⟨hB, hen, hl, vs, he, h2, hm⟩ := id x
 have z2 : 2 < vs.size := (Array.getElem?_eq_some_iff.mp h2).1
 obtain ⟨oe, ge, ce, de⟩ := id he
 unfold noteFrame
 simp only [hf]
 rcases hx with rfl | rfl | rfl
 ·refine wpAny_bind (wpAny_field ge de hm ?_)
  rw [if_neg (by decide)]
  exact air_entry hfr hf hB hl he hen (Nat.lt_of_succ_lt z2) h2 h
 ·obtain ⟨T, ts, c, t1, tB, tne, hT, t3⟩ := hm
  obtain ⟨oT, gT, cT, dT⟩ := id hT
  refine wpAny_bind (wpAny_field ge de t1 ?_)
  rw [if_pos (show (Value.ref T != Value.none) = true from by simp)]
  refine wpAny_bind (wpAny_field gT dT t3 ?_)
  rw [if_neg (show ¬ ((Value.none == rawInt L) = true) from by simp [rawInt])]
  refine wpAny_bind (wpAny_setField gT dT (Array.getElem?_eq_some_iff.mp t3).1 ?_)
  refine air_entry hfr hf (fun b o q => get_upd_ne (fun z => by rw [z, tB] at q; cases q) (hB b o q)) (hl.of_keeps fun b o hb hn => ⟨o, get_upd_ne (hT.no_field hb hn) hb, rfl⟩) (he.keep fun o q => get_upd_ne (Ne.symm tne) q) hen (Nat.lt_of_succ_lt z2) h2 fun h' a b => h h' a fun b' o hb hn => ?_
  exact b b' o (get_upd_ne (hT.no_field hb hn) hb) hn
 ·obtain ⟨T, ts, c, t1, tB, tne, hT, t3⟩ := hm
  obtain ⟨oT, gT, cT, dT⟩ := id hT
  refine wpAny_bind (wpAny_field ge de t1 ?_)
  rw [if_pos (show (Value.ref T != Value.none) = true from by simp)]
  refine wpAny_bind (wpAny_field gT dT t3 ?_)
  rw [if_pos (show (rawInt L == rawInt L) = true from by simp)]
  exact wpAny_pure (h s.heap x (.refl _))
theorem air_mark {B : Heap} {l : List Env} {e : Addr} {cls x : Value} {fr : Option Addr} {Q : Unit → Shared → Prop} (hx : InAir B s.heap l e cls (some x))
  (h : ∀ h', InAir B h' l e cls (some (fr.elim .none fun f => rawInt f)) → s.heap.UpToSlots h' → Q () { s with heap := h' }) : wpAny M A (setFlight (.ref e) fr) Q E s := by
 obtain ⟨hB, hen, hl, vs, he, h2, T, ts, c, t1, tB, tne, hT, t3⟩ := hx
 obtain ⟨oe, ge, ce, de⟩ := id he
 obtain ⟨oT, gT, cT, dT⟩ := id hT
 have z3 : 3 < ts.size := (Array.getElem?_eq_some_iff.mp t3).1
 unfold setFlight
 refine wpAny_bind (wpAny_field ge de t1 ?_)
 rw [if_pos (show (Value.ref T != Value.none) = true from by simp)]
 refine wpAny_setField gT dT z3 (h _ ⟨fun b o q => get_upd_ne (fun z => by rw [z, tB] at q; cases q) (hB b o q), hen, hl.of_keeps fun b o hb hn => ⟨o, get_upd_ne (hT.no_field hb hn) hb, rfl⟩, vs, he.keep fun o q => get_upd_ne (Ne.symm tne) q, h2, T, _, c, t1, tB, tne, hT.set 3 _, ?_⟩ fun b o hb hn => ⟨o.slots, get_upd_ne (hT.no_field hb hn) hb⟩)
 simp [z3]
theorem air_leave {B : Heap} {env : Env} {outer : List Env} {L e : Addr} {cls : Value} {f : Option Value} {Q : Unit → Shared → Prop}
  (hfr : A.frames = some (env :: outer)) (hf : env.frame = some L) (x : InAir B s.heap (env :: outer) e cls f) (hx : f = none ∨ f = some .none ∨ f = some (rawInt L))
  (h : ∀ h', InAir B h' outer e cls (some .none) → s.heap.UpToSlots h' → Q () { s with heap := h' }) : wpAny M A (leaving env (.ref e)) Q E s := by
 unfold leaving
 refine wpAny_bind (air_note hfr hf x hx fun h₁ x₁ u₁ => ?_)
 exact air_mark (fr := none) x₁ fun h₂ x₂ u₂ => h h₂ x₂.fewer (u₁.trans u₂)
theorem air_back {B : Heap} {env : Env} {l : List Env} {L e : Addr} {cls : Value} (hf : env.frame = some L) {E' : Value → Shared → Prop} (x : InAir B s.heap l e cls (some (rawInt L)))
  (h : ∀ h', InAir B h' l e cls (some (rawInt L)) → s.heap.UpToSlots h' → E' (.ref e) { s with heap := h' }) : cameBackBy M A env E' (.ref e) s := by
 obtain ⟨hB, hen, hl, vs, he, h2, T, ts, c, t1, tB, tne, hT, t3⟩ := id x
 obtain ⟨oe, ge, ce, de⟩ := id he
 unfold cameBackBy
 refine wpAny_bind (wpAny_field ge de t1 ?_)
 rw [if_neg (by simp)]
 rw [hf]
 exact air_mark (fr := some L) x h
end
end PySem
set_option Elab.async false
set_option linter.all false
namespace PySem
open Sem (wp)
section
variable {prog : Program} {w : World} {A : Around} {E : Value → Shared → Prop} {s : Shared}
theorem entry_unchain : entryFor table "proto.unchain" = some Builtin.«proto.unchain» := entryFor_of_fast (by kernel_rfl)
noncomputable def HdAt (A : Around) (h : Heap) : Prop := A.handled = none ∨ ∃ a o vs, A.handled = some (.ref a) ∧ h.get? a = some o ∧ o.data = .fields vs ∧ vs[2]? = some .none
theorem HdAt.keeps {A : Around} {h h' : Heap} (x : HdAt A h) (k : ∀ a o, A.handled = some (.ref a) → h.get? a = some o → h'.get? a = some o) : HdAt A h' := by
 rcases x with x | ⟨a, o, vs, e, ha, r⟩
 ·exact .inl x
 ·exact .inr ⟨a, o, vs, e, k a o e ha, r⟩
theorem raise_any {α : Type} {e : Addr} {oe : Obj} {ws : Array Value} {Q : α → Shared → Prop}
  (he : s.heap.get? e = some oe) (hd : oe.data = .fields ws) (hz : 2 < ws.size) (hne : A.handled ≠ some (.ref e)) (hh : HdAt A s.heap)
  (h : ∀ h' oe', h'.get? e = some oe' → oe'.cls = oe.cls → (∀ b o, b ≠ e → s.heap.get? b = some o → h'.get? b = some o) → E (.ref e) { s with heap := h' }) :
  wpAny (model prog w) A (raiseNew (.ref e) : Sem α) Q E s := by
 rcases hh with hh | ⟨a, o, vs, hh, ha, hda, h2⟩
 ·exact wpAny_raiseNew_none hh (h s.heap oe he rfl fun _ _ _ q => q)
 ·have hae : a ≠ e := fun q => hne (by rw [hh, q])
  unfold raiseNew
  refine wpAny_bind (wpAny_handled ?_)
  rw [hh]
  show wpAny _ _ (if (Value.ref a != Value.ref e) = true then (holding [Value.ref e] (runValue (Code.builtin "proto.unchain" { pos := [Value.ref e, .ref a, .ref a, Value.bool false] })) >>= fun _ => updateField e 2 (.ref a) >>= fun _ => throw (Value.ref e)) else throw (Value.ref e)) _ _ _
  rw [if_pos (by simp [hae])]
  refine wpAny_bind (wpAny_holding (wpAny_runValue (codeAny_builtin entry_unchain ?_)))
  unfold Builtin.«proto.unchain»
  refine wpAny_bind (wpAny_field ha hda h2 ?_)
  simp only [beq_self_eq_true, if_true]
  refine wpAny_pure ?_
  show wpAny _ _ _ _ _ _
  refine wpAny_bind ?_
  refine wpAny_setField (i := 2) he hd hz (wpAny_throw (h _ _ (Heap.get?_update_self _ he (Obj.isFreed_of_fields (Obj.data_mapFields hd _))) (Obj.cls_mapFields _ _) fun b o' hb q => ?_))
  rw [Heap.get?_update_other _ _ (Ne.symm hb)]
  exact q
theorem HdAt.ne_new {A : Around} {h : Heap} (x : HdAt A h) {e : Addr} (he : h.get? e = none) : A.handled ≠ some (.ref e) := fun q => by
 rcases x with x | ⟨a, o, vs, z, ha, _⟩
 ·rw [x] at q; cases q
 ·rw [z] at q; cases q; rw [he] at ha; cases ha
theorem stop_raised {α : Type} {Q : α → Shared → Prop} (hh : HdAt A s.heap)
  (h : ∀ h' e oe, h'.get? e = some oe → oe.cls = .type "StopIteration" → (∀ b o, s.heap.get? b = some o → h'.get? b = some o) → E (.ref e) { s with heap := h' }) :
  wpAny (model prog w) A (newExc (.type "StopIteration") [] >>= fun e => (raiseNew e : Sem α)) Q E s := by
 refine wpAny_bind ?_
 simp only [newExc, newTuple]
 refine wpAny_bind (wpAny_newObj_type ?_ (by size_fits))
 refine wpAny_bind (m := firstArgMember _ _) (wpAny_of_eq (a := Value.none) (by first | rfl | (simp only [firstArgMember]; rfl)) ?_)
 refine wpAny_newObj_type ?_ (by size_fits)
 have k : ∀ b o, s.heap.get? b = some o → ((s.heap.push { cls := .type "tuple", dict := none, data := .seq ([] : List Value).toArray }).push { cls := .type "StopIteration", dict := none, data := .fields (#[Value.ref s.heap.objs.size, .none, .none, .none, .bool false, .none] ++ ownMembersOf (.type "StopIteration") []) }).get? b = some o :=
  fun b o q => Heap.get?_push_of_some _ (Heap.get?_push_of_some _ q)
 have ne : A.handled ≠ some (.ref (s.heap.push { cls := .type "tuple", dict := none, data := .seq ([] : List Value).toArray }).objs.size) := hh.ne_new (Heap.get?_none_of_le (by rw [Heap.size_push]; exact Nat.le_succ _))
 refine raise_any (Heap.get?_push_size _ rfl) rfl (by simp only [Array.size_append] <;> simp <;> omega) ne (hh.keeps fun a o _ q => k a o q) fun h' oe' e1 e2 e3 => h h' _ oe' e1 e2 fun b o q => e3 b o (fun z => ?_) (k b o q)
 have := Heap.lt_size q
 rw [z, Heap.size_push] at this
 exact absurd (Nat.lt_of_succ_lt this) (Nat.lt_irrefl _)
theorem list_end {it l : Addr} {i : Nat} {items} {Q : Option Value → Shared → Prop} (hh : HdAt A s.heap) (hne : A.handled ≠ some (.ref it))
  (hit : s.heap.IsListIter it l i) (hl : s.heap.IsList l items) (hx : items[i]? = none)
  (hQ : ∀ h', (∀ b o, b ≠ it → s.heap.get? b = some o → h'.get? b = some o) → Q none { s with heap := h' }) : wpAny (model prog w) A (pyNext (.ref it)) Q E s := by
 obtain ⟨o, ho, hc, hd⟩ := id hit
 obtain ⟨ol, hol, _, nl, hdl⟩ := hl
 unfold pyNext
 refine wpAny_bind (wpAny_attempt (wpAny_callSpecial?_slot (name := Str.ofString "__next__") hit.typeIs slot_listiter_next
  (wpAny_call_entry slot_listiter_next hit.typeIs entry_listiter_next ?_ (args_listiter_next _))))
 show wpAny _ _ (field (.ref it) 0 >>= _) _ _ s
 refine wpAny_bind (wpAny_field ho hd (x := .ref l) rfl ?_)
 show wpAny _ _ (if (Value.ref l == Value.none) = true then _ else _) _ _ s
 rw [if_neg (show ¬ ((Value.ref l == Value.none) = true) from Bool.false_ne_true)]
 show wpAny _ _ (field (.ref it) 1 >>= _) _ _ s
 refine wpAny_bind (wpAny_field ho hd (x := .int i 0) rfl ?_)
 show wpAny _ _ (seqItems? (.ref l) >>= _) _ _ s
 refine wpAny_bind (wpAny_seqItems hol hdl ?_)
 simp only [Int.toNat_natCast, hx]
 refine wpAny_bind (wpAny_rule (wpAny_bind (wpAny_setField ho hd (by simp) ?_)))
 have k : ∀ b o', b ≠ it → s.heap.get? b = some o' → (s.heap.update it (Obj.mapFields (·.setIfInBounds 0 .none))).get? b = some o' := fun b o' hb q => by
  rw [Heap.get?_update_other _ _ (Ne.symm hb)]; exact q
 refine stop_raised (hh.keeps fun a o' e q => k a o' (fun z => hne (by rw [← z]; exact e)) q) fun h' e oe e1 e2 e3 => ?_
 refine wpAny_bind (wpAny_isInstance (T := "StopIteration") (b := true) ⟨_, e1, e2⟩ isSubtype_stop ?_)
 exact wpAny_pure (hQ _ fun b o' hb q => e3 b o' (k b o' hb q))
theorem tuple_end {it t : Addr} {i : Nat} {items} {Q : Option Value → Shared → Prop} (hh : HdAt A s.heap) (hne : A.handled ≠ some (.ref it))
  (hit : s.heap.IsTupleIter it t i) (ht : s.heap.IsTuple t items) (hx : items[i]? = none)
  (hQ : ∀ h', (∀ b o, b ≠ it → s.heap.get? b = some o → h'.get? b = some o) → Q none { s with heap := h' }) : wpAny (model prog w) A (pyNext (.ref it)) Q E s := by
 obtain ⟨o, ho, hc, hd⟩ := id hit
 obtain ⟨ol, hol, _, nl, hdl⟩ := ht
 unfold pyNext
 refine wpAny_bind (wpAny_attempt (wpAny_callSpecial?_slot (name := Str.ofString "__next__") hit.typeIs F.slot_tuple_iterator_next
  (wpAny_call_entry F.slot_tuple_iterator_next hit.typeIs F.entry_tuple_iterator_next ?_ (F.args_tuple_iterator_next_1 _))))
 show wpAny _ _ (field (.ref it) 0 >>= _) _ _ s
 refine wpAny_bind (wpAny_field ho hd (x := .ref t) rfl ?_)
 show wpAny _ _ (if (Value.ref t == Value.none) = true then _ else _) _ _ s
 rw [if_neg (show ¬ ((Value.ref t == Value.none) = true) from Bool.false_ne_true)]
 show wpAny _ _ (field (.ref it) 1 >>= _) _ _ s
 refine wpAny_bind (wpAny_field ho hd (x := .int i 0) rfl ?_)
 show wpAny _ _ (seqItems? (.ref t) >>= _) _ _ s
 refine wpAny_bind (wpAny_seqItems hol hdl ?_)
 simp only [Int.toNat_natCast, hx]
 refine wpAny_bind (wpAny_rule (wpAny_bind (wpAny_setField ho hd (by simp) ?_)))
 have k : ∀ b o', b ≠ it → s.heap.get? b = some o' → (s.heap.update it (Obj.mapFields (·.setIfInBounds 0 .none))).get? b = some o' := fun b o' hb q => by
  rw [Heap.get?_update_other _ _ (Ne.symm hb)]; exact q
 refine stop_raised (hh.keeps fun a o' e q => k a o' (fun z => hne (by rw [← z]; exact e)) q) fun h' e oe e1 e2 e3 => ?_
 refine wpAny_bind (wpAny_isInstance (T := "StopIteration") (b := true) ⟨_, e1, e2⟩ isSubtype_stop ?_)
 exact wpAny_pure (hQ _ fun b o' hb q => e3 b o' (k b o' hb q))
theorem range_end {it : Addr} {x left step : Int} {Q : Option Value → Shared → Prop} (hh : HdAt A s.heap) (hit : IsRangeIter s.heap it x left step) (hleft : left ≤ 0)
  (hQ : ∀ h', (∀ b o, s.heap.get? b = some o → h'.get? b = some o) → Q none { s with heap := h' }) : wpAny (model prog w) A (pyNext (.ref it)) Q E s := by
 have hT : s.TypeIs (.ref it) "range_iterator" := ⟨_, hit, rfl⟩
 unfold pyNext
 refine wpAny_bind (wpAny_attempt (wpAny_callSpecial?_slot (name := Str.ofString "__next__") hT F.slot_range_iterator_next
  (wpAny_call_entry F.slot_range_iterator_next hT F.entry_range_iterator_next ?_ (F.args_range_iterator_next_1 _))))
 show wpAny _ _ (field (.ref it) 0 >>= _) _ _ s
 refine wpAny_bind (wpAny_field hit rfl (x := rawInt x) rfl ?_)
 show wpAny _ _ (field (.ref it) 1 >>= _) _ _ s
 refine wpAny_bind (wpAny_field hit rfl (x := rawInt left) rfl ?_)
 show wpAny _ _ (field (.ref it) 2 >>= _) _ _ s
 refine wpAny_bind (wpAny_field hit rfl (x := rawInt step) rfl ?_)
 show wpAny _ _ (if left ≤ 0 then _ else _) _ _ s
 rw [if_pos hleft]
 refine wpAny_bind (wpAny_rule ?_)
 refine wpAny_bind ?_
 refine stop_raised hh fun h' e oe e1 e2 e3 => ?_
 refine wpAny_bind (wpAny_isInstance (T := "StopIteration") (b := true) ⟨_, e1, e2⟩ isSubtype_stop ?_)
 exact wpAny_pure (hQ _ fun b o' q => e3 b o' q)
theorem range_next {it : Addr} {lo : Int} {i n : Nat} {Q : Option Value → Shared → Prop} (hi : i < n) (st : IsRangeIter s.heap it (lo + (i : Nat) * 1) ((n : Int) - (i : Nat)) 1)
  (hQ : ∀ v h' tk, (∃ t, v = .int (lo + (i : Nat) * 1) t) → IsRangeIter h' it (lo + ((i + 1 : Nat) : Int) * 1) ((n : Int) - ((i + 1 : Nat) : Int)) 1 → (∀ b o, b ≠ it → s.heap.get? b = some o → h'.get? b = some o) → Q (some v) { s with heap := h', toks := tk }) :
  wpAny (model prog w) A (pyNext (.ref it)) Q E s := by
 refine wpAny_pyNext_range_item st (by omega) fun h' hit' hs' => ?_
 refine hQ _ h' _ ⟨_, rfl⟩ ?_ fun b o hb e => hs'.extBut b o hb e
 have e1 : lo + ((i + 1 : Nat) : Int) * 1 = lo + (i : Int) * 1 + 1 := by push_cast; omega
 have e2 : (n : Int) - ((i + 1 : Nat) : Int) = (n : Int) - (i : Int) - 1 := by push_cast; omega
 rw [e1, e2]; exact hit'
noncomputable def hdA (A : Around) : List Addr := match A.handled with | some (.ref a) => [a] | _ => []
theorem HdAt.frame {A : Around} {h h' : Heap} (x : HdAt A h) (k : ∀ b ∈ hdA A, ∀ o, h.get? b = some o → h'.get? b = some o) : HdAt A h' :=
 x.keeps fun a o e q => k a (by unfold hdA; rw [e]; exact List.mem_singleton.mpr rfl) o q
theorem walks_list (I ax : Addr) (hne : ax ≠ I) (hnI : A.handled ≠ some (.ref I)) (items : Array Value) :
  Walks prog w A I ([I, ax] ++ hdA A) [I] items.size (fun i v => items[i]? = some v) (fun i h => h.IsListIter I ax i ∧ h.IsList ax items ∧ HdAt A h) where
 sub := fun b hb => by simp at hb; simp [hb]
 frame := fun _ _ _ st hk => ⟨st.1.at fun o e => hk I (by simp) o e, st.2.1.at fun o e => hk ax (by simp) o e, st.2.2.frame fun b hb o e => hk b (List.mem_append_right _ hb) o e⟩
 item := fun i s Q E hi st hQ => by
  refine wpAny_pyNext_list_item st.1 st.2.1 (x := items[i]) (by simp [hi]) fun h' hit' hs' => ?_
  refine hQ _ h' s.toks (by simp [hi]) ⟨hit', st.2.1.extBut hs'.extBut hne, st.2.2.keeps fun a o e q => hs'.extBut a o (fun z => hnI (by rw [← z]; exact e)) q⟩ fun b o hb e => hs'.extBut b o (fun h => hb (by simp [h])) e
 done := fun s Q E st hQ => list_end st.2.2 hnI st.1 st.2.1 (by simp) fun h' he' => hQ h' s.toks fun b o hb e => he' b o (fun h => hb (by simp [h])) e
 self := fun _ _ _ _ st hQ => wpAny_pyIter_listiter st.1 hQ
end
end PySem
namespace L2
open PySem PySem.Spec PyProof.Rows
noncomputable abbrev Key := Sum Int Str
noncomputable def keyIs : Key → Value → Bool
 | .inl k, v => Value.isInt k v
 | .inr x, v => Value.isStrOf x v
noncomputable def keyH (w : World) : Key → Int
 | .inl k => hashInt k
 | .inr x => hashStr w x
theorem keyIs_shape : ∀ {k : Key} {v : Value}, keyIs k v = true → (∃ i t, k = Sum.inl i ∧ v = Value.int i t) ∨ (∃ x t, k = Sum.inr x ∧ v = Value.str x t)
 | .inl i, v, h => by
  obtain ⟨t, e⟩ := Value.isInt_shape (k := i) (v := v) h
  exact .inl ⟨i, t, rfl, e⟩
 | .inr x, v, h => by
  obtain ⟨t, e⟩ := Value.isStrOf_shape (x := x) (v := v) h
  exact .inr ⟨x, t, rfl, e⟩
theorem keyIs_int (i : Int) (t : Tok) : keyIs (.inl i) (.int i t) = true := by simp [keyIs, Value.isInt]
theorem keyIs_str (x : Str) (t : Tok) : keyIs (.inr x) (.str x t) = true := by simp [keyIs, Value.isStrOf]
theorem key_ll (a b : Int) : decide ((Sum.inl a : Key) = Sum.inl b) = (a == b) := by
 by_cases e : a = b
 ·subst e; simp
 ·have h : ¬ (Sum.inl a : Key) = Sum.inl b := fun q => e (Sum.inl.inj q)
  rw [decide_eq_false h]
  exact (beq_eq_false_iff_ne.mpr e).symm
theorem key_rr (a b : Str) : decide ((Sum.inr a : Key) = Sum.inr b) = decide (a = b) := by
 by_cases e : a = b
 ·subst e; simp
 ·have h : ¬ (Sum.inr a : Key) = Sum.inr b := fun q => e (Sum.inr.inj q)
  rw [decide_eq_false h, decide_eq_false e]
theorem key_lr (a : Int) (b : Str) : decide ((Sum.inl a : Key) = Sum.inr b) = false := decide_eq_false (fun q => nomatch q)
theorem key_rl (a : Str) (b : Int) : decide ((Sum.inr a : Key) = Sum.inl b) = false := decide_eq_false (fun q => nomatch q)
noncomputable def mixKind (prog : Program) (w : World) : PySem.KeyKind prog w Key where
 is := keyIs
 hash := keyH w
 inj := fun v a b ha hb => by
  rcases keyIs_shape ha with ⟨i, t, rfl, rfl⟩ | ⟨x, t, rfl, rfl⟩
  ·rcases keyIs_shape hb with ⟨j, u, rfl, e⟩ | ⟨y, u, rfl, e⟩
   ·injection e with e1 _; rw [e1]
   ·exact nomatch e
  ·rcases keyIs_shape hb with ⟨j, u, rfl, e⟩ | ⟨y, u, rfl, e⟩
   ·exact nomatch e
   ·injection e with e1 _; rw [e1]
 byValue := fun k v h => by
  rcases keyIs_shape h with ⟨i, t, rfl, rfl⟩ | ⟨x, t, rfl, rfl⟩ <;> rfl
 pyHash := fun hv h => by
  rcases keyIs_shape hv with ⟨i, t, rfl, rfl⟩ | ⟨x, t, rfl, rfl⟩
  ·exact wpAny_pyHash_int h
  ·exact wpAny_pyHash_str h
 eqBool := fun hu hv h => by
  rcases keyIs_shape hu with ⟨i, t, rfl, rfl⟩ | ⟨x, t, rfl, rfl⟩
  ·rcases keyIs_shape hv with ⟨j, u, rfl, rfl⟩ | ⟨y, u, rfl, rfl⟩
   ·rw [key_ll] at h; exact wpAny_eqBool_int h
   ·rw [key_lr] at h; exact SeqAt.EqAt.int_str i t y u _ _ _ _ h
  ·rcases keyIs_shape hv with ⟨j, u, rfl, rfl⟩ | ⟨y, u, rfl, rfl⟩
   ·rw [key_rl] at h; exact SeqAt.EqAt.str_int x t j u _ _ _ _ h
   ·rw [key_rr] at h; exact wpAny_eqBool_str h
 «strs» := fun k x t v h => by
  rcases keyIs_shape h with ⟨i, u, rfl, e⟩ | ⟨y, u, rfl, e⟩
  ·exact nomatch e
  ·injection e with e1 _
   subst e1
   cases v <;> rfl
theorem mixKind_int (prog : Program) (w : World) (i : Int) (t : Tok) : (mixKind prog w).is (.inl i) (.int i t) = true := keyIs_int i t
theorem mixKind_str (prog : Program) (w : World) (x : Str) (t : Tok) : (mixKind prog w).is (.inr x) (.str x t) = true := keyIs_str x t
end L2
namespace L2
open PySem PySem.Spec PyProof.Rows
inductive V where
 | non | bl (b : Bool) | int (i : Int) | str (x : Str) | byt (b : Array UInt8) | flt (b : UInt64) | ref (a : Addr) | ty (n : String)
 deriving DecidableEq
noncomputable def RelV : V → Value → Prop
 | .non, u => u = Value.none
 | .bl b, u => u = Value.bool b
 | .int i, u => ∃ t, u = Value.int i t
 | .str x, u => ∃ t, u = Value.str x t
 | .byt b, u => ∃ t, u = Value.bytes b t
 | .flt b, u => ∃ t, u = Value.float b t
 | .ref a, u => u = Value.ref a
 | .ty n, u => u = Value.type n
noncomputable abbrev Vals : List V → List Value → Prop := Paired RelV
theorem Vals.length {xs : List V} {us : List Value} (r : Vals xs us) : xs.length = us.length := Paired.length r
theorem Vals.get : ∀ {xs : List V} {us : List Value} {i : Nat} {x : V}, Vals xs us → xs[i]? = some x → ∃ u, us[i]? = some u ∧ RelV x u
 | _, _, _, _, .nil, e => by simp at e
 | _, _, 0, _, .cons r _, e => by simp at e; subst e; exact ⟨_, rfl, r⟩
 | _, _, i + 1, x, .cons _ t, e => by
  obtain ⟨u, h1, h2⟩ := Vals.get (i := i) (x := x) t (by simpa using e)
  exact ⟨u, by simpa using h1, h2⟩
theorem Vals.set {x : V} {u : Value} (r : RelV x u) : ∀ {xs : List V} {us : List Value} (i : Nat), Vals xs us → Vals (xs.set i x) (us.set i u)
 | _, _, _, .nil => .nil
 | _, _, 0, .cons _ t => .cons r t
 | _, _, i + 1, .cons q t => .cons q (Vals.set r i t)
theorem Vals.append : ∀ {xs ys : List V} {us ws : List Value}, Vals xs us → Vals ys ws → Vals (xs ++ ys) (us ++ ws)
 | _, _, _, _, .nil, s => s
 | _, _, _, _, .cons r t, s => .cons r (Vals.append t s)
theorem Vals.take : ∀ {xs : List V} {us : List Value} (n : Nat), Vals xs us → Vals (xs.take n) (us.take n)
 | _, _, 0, _ => .nil
 | _, _, _ + 1, .nil => .nil
 | _, _, n + 1, .cons r t => .cons r (Vals.take n t)
theorem Vals.drop : ∀ {xs : List V} {us : List Value} (n : Nat), Vals xs us → Vals (xs.drop n) (us.drop n)
 | _, _, 0, r => r
 | _, _, _ + 1, .nil => .nil
 | _, _, n + 1, .cons _ t => Vals.drop n t
noncomputable def RelO : Option V → Option Value → Prop
 | some v, some u => RelV v u
 | none, none => True
 | _, _ => False
noncomputable def KV {κ : Type} : List (κ × V) → List (κ × Value) → Prop := Paired fun (p : κ × V) (q : κ × Value) => p.1 = q.1 ∧ RelV p.2 q.2
noncomputable def kV : Key → V
 | .inl i => .int i
 | .inr x => .str x
inductive HO where
 /-- a list -/
 | lst (xs : List V)
 /-- a tuple (never changes) -/
 | tup (xs : List V)
 /-- a dict whose keys are ints and texts; one whose keys are tuples of ints and texts (the empty one is both) -/
 | dK (kvs : List (Key × V)) | dT (kvs : List (List Key × V))
 /-- a set of ints: its members, its size -/
 | set (S : Int → Bool) (n : Nat)
 /-- an instance of the class at C, its dict at dx, its attributes -/
 | ins (C dx : Addr) (fs : List (Str × V))
 /-- the dict of the instance at x -/
 | own (x : Addr)
 /-- the dict of an exception -/
 | xd (fs : List (Str × V))
 /-- a bound method, f of x -/
 | met (f x : Addr)
 /-- a range object lo, lo + 1, .. below hi -/
 | rng (lo hi : Int)
 /-- a thing that is known to the object (the script; a dict while a loop walks it): read, never written while it is so -/
 | frz (o : Obj) (u : HO)
 /-- a code object's table -/
 | tbl (ps : Array Value)
 /-- any other thing, by what is true of its one object (a def of one's own: SetO a S n := HO.ext fun h => ..) -/
 | ext (φ : Heap → Prop)
noncomputable abbrev Hp := Addr → Option HO
noncomputable def upd (H : Hp) (a : Addr) (o : HO) : Hp := fun b => if b = a then some o else H b
theorem upd_same {H : Hp} {a : Addr} {o : HO} : upd H a o a = some o := by unfold upd; rw [if_pos rfl]
theorem upd_ne {H : Hp} {a b : Addr} {o : HO} (h : b ≠ a) : upd H a o b = H b := by unfold upd; rw [if_neg h]
theorem upd_upd {H : Hp} {a : Addr} {o u : HO} : upd (upd H a o) a u = upd H a u := by
 funext b; unfold upd; split <;> rfl
theorem ne_of {H : Hp} {a b : Addr} {o u : HO} (h : H a = some o) (h' : H b = some u) (d : o ≠ u) : a ≠ b := by
 intro e; subst e; rw [h] at h'; exact d (Option.some.inj h')
theorem ne_of_none {H : Hp} {a b : Addr} {o : HO} (h : H a = some o) (h' : H b = none) : a ≠ b := by
 intro e; subst e; rw [h] at h'; cases h'
section
variable (P : Program) (w : World)
noncomputable def ObjOk (H : Hp) (h : Heap) (a : Addr) : HO → Prop
 | .lst xs => xs.length ≤ sizeLine ∧ ∃ (its : List Value) (n : Nat), Vals xs its ∧ h.get? a = some { cls := .type "list", data := .seq its.toArray n }
 | .tup xs => xs.length ≤ sizeLine ∧ ∃ its : List Value, Vals xs its ∧ IsTup h a its.toArray
 | .dK kvs => kvs.length ≤ sizeLine ∧ (a == sysModules) = false ∧ ∃ vs, KV kvs vs ∧ h.DictOf (mixKind P w) a vs
 | .dT kvs => kvs.length ≤ sizeLine ∧ (a == sysModules) = false ∧ ∃ xs : List (List Key × Addr × Value),
   Paired (fun (p : List Key × V) (q : List Key × Addr × Value) => p.1 = q.1 ∧ H q.2.1 = some (.tup (p.1.map kV)) ∧ RelV p.2 q.2.2) kvs xs ∧
   ∃ o es ep, h.get? a = some o ∧ o.ExactDict ∧ o.data = .dict es ep ∧ es.toList = xs.map (entryOfKey (tupleKind (mixKind P w))) ∧ (xs.map (·.1)).Nodup
 | .set S n => h.SetOf (intKind P w) a S n
 | .ins C dx fs => H dx = some (.own a) ∧ fs.length ≤ 1000 ∧ dx ≠ a ∧ h.get? a = some (PySem.W.instObj C dx) ∧
   ∃ mA, h.Ns1 dx mA ∧ (∀ f, RelO (fs.lookup f) (mA f)) ∧ PySem.Within mA (fs.map (·.1))
 | .own _ => ∃ o, h.get? a = some o
 | .xd fs => ∃ mA, h.Ns1 a mA ∧ ∀ f, RelO (fs.lookup f) (mA f)
 | .rng lo hi => ∃ t u v, h.get? a = some { cls := .type "range", data := .fields #[.int lo t, .int hi u, .int 1 v] }
 | .frz o u => h.get? a = some o ∧ ObjOk H h a u
 | .tbl ps => h.get? a = some { cls := .none, data := .fields ps }
 | .met f x => h.get? a = some (PySem.W.methodObj (.ref f) (.ref x))
 | .ext φ => φ h ∧ (∃ o, h.get? a = some o) ∧ ∀ h1 h2 : Heap, φ h1 → (∀ o, h1.get? a = some o → h2.get? a = some o) → φ h2
noncomputable def HOk (H : Hp) (h : Heap) : Prop := ∀ a o, H a = some o → ObjOk P w H h a o
end
section
variable {P : Program} {w : World} {H H' : Hp} {h h' : Heap} {a : Addr} {o : HO}
theorem ObjOk.lt (x : ObjOk P w H h a o) : a < h.objs.size := by
 cases o with
 | lst xs => obtain ⟨_, _, _, _, e⟩ := x; exact Heap.lt_size e
 | tup xs => obtain ⟨_, _, _, p⟩ := x; exact p.lt
 | dK kvs => obtain ⟨_, _, _, _, o, _, _, e, _⟩ := x; exact Heap.lt_size e
 | dT kvs => obtain ⟨_, _, _, _, o, _, _, e, _⟩ := x; exact Heap.lt_size e
 | set S n => obtain ⟨o, _, _, _, e, _⟩ := x; exact Heap.lt_size e
 | ins C dx fs => obtain ⟨_, _, _, e, _⟩ := x; exact Heap.lt_size e
 | own y => obtain ⟨_, e⟩ := x; exact Heap.lt_size e
 | xd fs => obtain ⟨_, ⟨_, _, _, e, _⟩, _⟩ := x; exact Heap.lt_size e
 | rng lo hi => obtain ⟨_, _, _, e⟩ := x; exact Heap.lt_size e
 | frz ob u => obtain ⟨e, _⟩ := x; exact Heap.lt_size e
 | tbl ps => exact Heap.lt_size (show h.get? a = some _ from x)
 | met f y => exact Heap.lt_size (show h.get? a = some _ from x)
 | ext φ => obtain ⟨_, ⟨_, e⟩, _⟩ := x; exact Heap.lt_size e
theorem Paired.mapP {α β : Type} {F G : α → β → Prop} : ∀ {l₁ : List α} {l₂ : List β}, Paired F l₁ l₂ → (∀ a b, F a b → G a b) → Paired G l₁ l₂
 | _, _, .nil, _ => .nil
 | _, _, .cons r t, f => .cons (f _ _ r) (Paired.mapP t f)
theorem ObjOk.stay (x : ObjOk P w H h a o) (k : ∀ b u, (b = a ∨ H b = some (.own a)) → h.get? b = some u → h'.get? b = some u)
  (ho : ∀ b, H b = some (.own a) → H' b = some (.own a)) (ht : ∀ b xs, H b = some (.tup xs) → H' b = some (.tup xs)) : ObjOk P w H' h' a o := by
 induction o with
 | lst xs => obtain ⟨z, its, n, r, e⟩ := x; exact ⟨z, its, n, r, k _ _ (.inl rfl) e⟩
 | tup xs => obtain ⟨z, its, r, ob, e, c⟩ := x; exact ⟨z, its, r, ob, k _ _ (.inl rfl) e, c⟩
 | dK kvs => obtain ⟨z, y, vs, r, ob, es, ep, e, c⟩ := x; exact ⟨z, y, vs, r, ob, es, ep, k _ _ (.inl rfl) e, c⟩
 | dT kvs =>
  obtain ⟨z, y, xs, r, ob, es, ep, e, c⟩ := x
  exact ⟨z, y, xs, Paired.mapP r fun p q z => ⟨z.1, ht _ _ z.2.1, z.2.2⟩, ob, es, ep, k _ _ (.inl rfl) e, c⟩
 | set S n => obtain ⟨ob, es, ep, t, e, c⟩ := x; exact ⟨ob, es, ep, t, k _ _ (.inl rfl) e, c⟩
 | ins C dx fs =>
  obtain ⟨d, z, ne, e, mA, ⟨od, es, ep, e2, c⟩, r⟩ := x
  exact ⟨ho _ d, z, ne, k _ _ (.inl rfl) e, mA, ⟨od, es, ep, k _ _ (.inr d) e2, c⟩, r⟩
 | own y => obtain ⟨ob, e⟩ := x; exact ⟨ob, k _ _ (.inl rfl) e⟩
 | xd fs => obtain ⟨mA, ⟨od, es, ep, e, c⟩, r⟩ := x; exact ⟨mA, ⟨od, es, ep, k _ _ (.inl rfl) e, c⟩, r⟩
 | rng lo hi => obtain ⟨t, u, v, e⟩ := x; exact ⟨t, u, v, k _ _ (.inl rfl) e⟩
 | frz ob u ih => obtain ⟨e, q⟩ := x; exact ⟨k _ _ (.inl rfl) e, ih q⟩
 | tbl ps =>
  have e : h.get? a = some { cls := .none, data := .fields ps } := x
  show h'.get? a = some { cls := .none, data := .fields ps }
  exact k a _ (.inl rfl) e
 | met f y =>
  have e : h.get? a = some (PySem.W.methodObj (.ref f) (.ref y)) := x
  show h'.get? a = some (PySem.W.methodObj (.ref f) (.ref y))
  exact k a _ (.inl rfl) e
 | ext φ => obtain ⟨p, ⟨o, e⟩, st⟩ := x; exact ⟨st _ _ p fun o q => k _ _ (.inl rfl) q, ⟨o, k _ _ (.inl rfl) e⟩, st⟩
theorem HOk.lt (x : HOk P w H h) (e : H a = some o) : a < h.objs.size := (x a o e).lt
theorem HOk.fresh (x : HOk P w H h) (e : h.objs.size ≤ a) : H a = none := by
 cases q : H a with
 | none => rfl
 | some u => exact absurd (Nat.lt_of_lt_of_le (x.lt q) e) (Nat.lt_irrefl _)
theorem HOk.kept (x : HOk P w H h) (k : ∀ b u, h.get? b = some u → h'.get? b = some u) : HOk P w H h' := fun a o e =>
 (x a o e).stay (fun b u _ q => k b u q) (fun _ q => q) fun _ _ q => q
theorem HOk.laid (x : HOk P w H h) (k : ∀ b u, h.get? b = some u → h'.get? b = some u) (hp : h.objs.size ≤ a) (new : ObjOk P w (upd H a o) h' a o) : HOk P w (upd H a o) h' := fun b u e => by
 have hn := x.fresh hp
 by_cases hb : b = a
 ·subst hb; rw [upd_same] at e; cases e; exact new
 ·rw [upd_ne hb] at e
  exact (x b u e).stay (fun c v _ q => k c v q) (fun c q => by rw [upd_ne (ne_of_none q hn)]; exact q) fun c xs q => by rw [upd_ne (ne_of_none q hn)]; exact q
end
noncomputable def Rd (H : Hp) (a : Addr) (u : HO) : Prop := H a = some u ∨ ∃ o, H a = some (.frz o u)
theorem Rd.ok {P : Program} {w : World} {H : Hp} {h : Heap} {a : Addr} {u : HO} (r : Rd H a u) (x : HOk P w H h) : ObjOk P w H h a u := by
 rcases r with r | ⟨o, r⟩
 ·exact x a u r
 ·obtain ⟨_, q⟩ := x a _ r
  exact q
noncomputable def Mut : Option HO → Prop
 | some (.lst _) => True
 | some (.dK _) => True
 | some (.dT _) => True
 | some (.set _ _) => True
 | some (.ins _ _ _) => True
 | some (.ext _) => True
 | _ => False
section
variable {P : Program} {w : World} {H : Hp} {h h' : Heap} {x e : Addr} {o' : HO}
theorem HOk.write (ok : HOk P w H h) (mu : Mut (H x)) (he : e = x ∨ H e = some (.own x)) (k : ∀ b u, b ≠ e → h.get? b = some u → h'.get? b = some u) (heo : ∃ u, h'.get? e = some u)
  (new : ObjOk P w (upd H x o') h' x o') : HOk P w (upd H x o') h' := fun b u q => by
 have nown : ∀ c y, H c = some (.own y) → c ≠ x := fun c y r z => by subst z; rw [r] at mu; exact mu
 have ntup : ∀ c xs, H c = some (.tup xs) → c ≠ x := fun c xs r z => by subst z; rw [r] at mu; exact mu
 by_cases hb : b = x
 ·subst hb; rw [upd_same] at q; cases q; exact new
 ·rw [upd_ne hb] at q
  by_cases hbe : b = e
  ·have q' : H b = some (.own x) := by
    rcases he with z | z
    ·exact absurd (hbe.trans z) hb
    ·rw [hbe]; exact z
   rw [q] at q'; cases q'
   obtain ⟨v, hv⟩ := heo
   exact ⟨v, by rw [hbe]; exact hv⟩
  ·refine (ok b u q).stay (fun c v hc r => k c v ?_ r) (fun c r => by rw [upd_ne (nown c b r)]; exact r) fun c xs r => by rw [upd_ne (ntup c xs r)]; exact r
   rcases hc with rfl | hc
   ·exact hbe
   ·rintro rfl
    rcases he with z | z
    ·exact nown c b hc z
    ·rw [hc] at z; cases z; exact hb rfl
end
structure Un (fs ex : List Addr) (H H' : Hp) (h h' : Heap) : Prop where
 keep : ∀ b o, h.get? b = some o → H b = none → b ∉ fs → b ∉ ex → h'.get? b = some o
 slot : ∀ b o, h.get? b = some o → H b = none → b ∈ fs → b ∉ ex → ∃ sl, h'.get? b = some { o with slots := sl }
 free : ∀ b o, h.get? b = some o → H b = none → b ∉ ex → H' b = none
 there : ∀ b o, h.get? b = some o → b ∉ ex → ∃ o', h'.get? b = some o'
 tups : ∀ b xs, H b = some (.tup xs) → H' b = some (.tup xs)
 frzs : ∀ b o u, H b = some (.frz o u) → H' b = some (.frz o u)
 tbls : ∀ b ps, H b = some (.tbl ps) → ∃ more, H' b = some (.tbl (ps ++ more))
section
variable {fs fs' ex ex' : List Addr} {H H1 H2 : Hp} {h h1 h2 h' : Heap} {a x e : Addr} {o : HO}
theorem Un.any (u : Un fs ex H H1 h h1) {b : Addr} {ob : Obj} (q : h.get? b = some ob) (n : H b = none) (hx : b ∉ ex) : ∃ sl, h1.get? b = some { ob with slots := sl } := by
 by_cases hb : b ∈ fs
 ·exact u.slot b ob q n hb hx
 ·exact ⟨ob.slots, u.keep b ob q n hb hx⟩
theorem Un.trans (a : Un fs ex H H1 h h1) (b : Un fs ex H1 H2 h1 h2) : Un fs ex H H2 h h2 where
 keep := fun c ob q n hc hx => b.keep c ob (a.keep c ob q n hc hx) (a.free c ob q n hx) hc hx
 slot := fun c ob q n hc hx => by
  obtain ⟨sl, e1⟩ := a.slot c ob q n hc hx
  obtain ⟨sl', e2⟩ := b.slot c _ e1 (a.free c ob q n hx) hc hx
  exact ⟨sl', e2⟩
 free := fun c ob q n hx => by
  obtain ⟨o', e1⟩ := a.there c ob q hx
  exact b.free c o' e1 (a.free c ob q n hx) hx
 there := fun c ob q hx => by
  obtain ⟨o', e1⟩ := a.there c ob q hx
  exact b.there c o' e1 hx
 tups := fun c xs q => b.tups c xs (a.tups c xs q)
 frzs := fun c ob xs q => b.frzs c ob xs (a.frzs c ob xs q)
 tbls := fun c ps q => by
  obtain ⟨m1, e1⟩ := a.tbls c ps q
  obtain ⟨m2, e2⟩ := b.tbls c _ e1
  exact ⟨m1 ++ m2, by rw [e2, Array.append_assoc]⟩
theorem Un.kept (k : ∀ b u, h.get? b = some u → h'.get? b = some u) : Un fs ex H H h h' :=
 ⟨fun b ob q _ _ _ => k b ob q, fun b ob q _ _ _ => ⟨ob.slots, k b ob q⟩, fun _ _ _ n _ => n, fun b ob q _ => ⟨ob, k b ob q⟩, fun _ _ q => q, fun _ _ _ q => q, fun _ ps q => ⟨#[], by rw [q]; simp⟩⟩
theorem Un.refl : Un fs ex H H h h := Un.kept fun _ _ q => q
theorem Un.laid (k : ∀ b u, h.get? b = some u → h'.get? b = some u) (hp : h.objs.size ≤ a) (hn : H a = none) : Un fs ex H (upd H a o) h h' where
 keep := fun b u q _ _ _ => k b u q
 slot := fun b u q _ _ _ => ⟨u.slots, k b u q⟩
 free := fun b u q n _ => by rw [upd_ne (Nat.ne_of_lt (Nat.lt_of_lt_of_le (Heap.lt_size q) hp))]; exact n
 there := fun b u q _ => ⟨u, k b u q⟩
 tups := fun b xs q => by rw [upd_ne (ne_of_none q hn)]; exact q
 frzs := fun b u xs q => by rw [upd_ne (ne_of_none q hn)]; exact q
 tbls := fun b ps q => ⟨#[], by rw [upd_ne (ne_of_none q hn), q]; simp⟩
theorem Un.write (mu : Mut (H x)) (he : e = x ∨ H e = some (.own x)) (k : ∀ b u, b ≠ e → h.get? b = some u → h'.get? b = some u) (heo : ∃ u, h'.get? e = some u) : Un fs ex H (upd H x o) h h' := by
 have hx : ∀ b, H b = none → b ≠ x := fun b n z => by subst z; rw [n] at mu; exact mu
 have hb : ∀ b, H b = none → b ≠ e := fun b n z => by
  subst z
  rcases he with r | r
  ·exact hx b n r
  ·rw [n] at r; cases r
 have hm : ∀ b u, H b = some u → ¬ Mut (some u) → b ≠ x := fun b u q nm z => by subst z; rw [q] at mu; exact nm mu
 refine ⟨fun b u q n _ _ => k b u (hb b n) q, fun b u q n _ _ => ⟨u.slots, k b u (hb b n) q⟩, fun b u q n _ => by rw [upd_ne (hx b n)]; exact n, fun b u q _ => ?_,
  fun b xs q => by rw [upd_ne (hm b _ q fun z => z)]; exact q, fun b u xs q => by rw [upd_ne (hm b _ q fun z => z)]; exact q, fun b ps q => ⟨#[], by rw [upd_ne (hm b _ q fun z => z), q]; simp⟩⟩
 by_cases hbe : b = e
 ·subst hbe; exact heo
 ·exact ⟨u, k b u hbe q⟩
theorem Un.mono (u : Un fs ex H H1 h h1) (hs : ∀ b ∈ fs, b ∈ fs') (hx : ∀ b ∈ ex, b ∈ ex') : Un fs' ex' H H1 h h1 :=
 ⟨fun b ob q n hb he => u.keep b ob q n (fun z => hb (hs b z)) fun z => he (hx b z), fun _ _ q n _ he => u.any q n fun z => he (hx _ z), fun b ob q n he => u.free b ob q n fun z => he (hx b z), fun b ob q he => u.there b ob q fun z => he (hx b z), u.tups, u.frzs, u.tbls⟩
end
noncomputable def trk (h : Heap) (H : Hp) : List Addr := (List.range h.objs.size).filter fun a => (H a).isSome
noncomputable def hidT (h : Heap) (H : Hp) : Heap := PySem.W.hideAll h (trk h H)
theorem hidT_size (h : Heap) (H : Hp) : (hidT h H).objs.size = h.objs.size := PySem.W.hideAll_size _ _
theorem hidT_get {h : Heap} {H : Hp} {b : Addr} {o : Obj} (e : h.get? b = some o) (n : H b = none) : (hidT h H).get? b = some o :=
 PySem.W.hideAll_get _ e fun hm => by
  have q : (H b).isSome = true := (List.mem_filter.mp hm).2
  rw [n] at q; simp at q
theorem of_hidT {h : Heap} {H : Hp} {b : Addr} {o : Obj} (e : (hidT h H).get? b = some o) : h.get? b = some o ∧ H b = none := by
 have e' : h.get? b = some o := PySem.W.of_hideAll (trk h H) e
 refine ⟨e', ?_⟩
 cases q : H b with
 | none => rfl
 | some x =>
  have hm : b ∈ trk h H := List.mem_filter.mpr ⟨List.mem_range.mpr (Heap.lt_size e'), by simp [q]⟩
  have z : (hidT h H).get? b = none := PySem.W.hideAll_none (trk h H) hm
  rw [z] at e; cases e
noncomputable def allNews (g h : Heap) (L : Addr) : List (Addr × Obj) := (List.range h.objs.size).filterMap fun a => if a = L ∨ (g.get? a).isSome = true then none else (h.get? a).map fun o => (a, o)
noncomputable def rest (g h : Heap) (L d : Addr) : List (Addr × Obj) := (allNews g h L).filter fun p => decide (p.1 ≠ d)
end L2
namespace L2
open PySem PySem.Spec PyProof.Rows
structure Mod (K : PySem.W.Frag) (mg : Str → Option Value) (base : Heap) : Prop where
 kin : K.In base
 glob : base.Ns mainGlobals mg
 blt : ∃ mb, base.Ns builtinsNs mb ∧ ∀ x : Str, x ≠ "__name__" → mb x = bootBuiltins x
 nolimit : base.NoLimit
structure Cx where
 prog : Program
 w : World
 K : PySem.W.Frag
 mg : Str → Option Value
 base : Heap
 A : Around
 N : List Str
 s₀ : Shared
 H₀ : Hp
 env : Env
 outer : List Env
 stack : List Env
 ex : List Addr
 fn : Str → Bool
 calm : Bool
 hx : Option (Addr × Obj)
 pn : List (Addr × Obj)
 xe : Value → Shared → Prop
noncomputable def frs (l : List Env) : List Addr := l.filterMap (·.frame)
noncomputable def HdOk (hx : Option (Addr × Obj)) (A : Around) : Prop := A.handled = none ∨ ∃ a o vs, hx = some (a, o) ∧ A.handled = some (.ref a) ∧ o.data = .fields vs ∧ vs[2]? = some .none
theorem HdOk.mono {hx : Option (Addr × Obj)} {A A' : Around} (h : HdOk hx A) (e : A'.handled = A.handled) : HdOk hx A' := by unfold HdOk at h ⊢; rw [e]; exact h
noncomputable def HxOk (hx : Option (Addr × Obj)) (H : Hp) : Prop := ∀ a o, hx = some (a, o) → ∃ u, H a = some (.frz o u)
noncomputable abbrev Cx.fs (X : Cx) : List Addr := frs X.outer
noncomputable def Vis (sc : Scope) (x : Str) : Prop := sc.names.lookup x = some .local ∨ sc.names.lookup x = some .cell ∨ sc.names.lookup x = some .free
noncomputable def Loc (sc : Scope) (x : Str) : Prop := sc.names.lookup x = some .local ∨ sc.names.lookup x = some .cell
noncomputable def Look (env : Env) (h : Heap) (m : Str → Option Value) (x : Str) (u : Value) : Prop :=
 (env.kindOf x = some .local ∧ m x = some u) ∨ ((env.kindOf x = some .cell ∨ env.kindOf x = some .free) ∧ ∃ c, env.cells.lookup x = some c ∧ h.IsCell c (some u))
structure Cx.Ok (X : Cx) : Prop where
 mod : Mod X.K X.mg X.base
 kind : X.env.scope.kind = .function
 glob : X.env.globals = mainGlobals
 blt : X.env.builtins = builtinsNs
 above : X.s₀.heap.objs.size ≤ X.env.locals
 inj : ∀ x y c, X.env.cells.lookup x = some c → X.env.cells.lookup y = some c → x = y
 has : ∀ x, (X.env.kindOf x = some .cell ∨ X.env.kindOf x = some .free) → ∃ c, X.env.cells.lookup x = some c
 cab : ∀ x c, X.fn x = true → X.env.cells.lookup x = some c → X.s₀.heap.objs.size ≤ c
 hd : X.calm = true → X.A.handled = none
 frames : X.A.frames = some X.stack
 stk : X.stack = X.outer ∨ (X.stack = X.env :: X.outer ∧ X.env.frame = some X.env.locals)
 exf : ∀ b ∈ X.ex, b ≠ X.env.locals ∧ ∀ x c, X.env.cells.lookup x = some c → c ≠ b
 bs : ∀ b o, X.base.get? b = some o → X.s₀.heap.get? b = some o ∧ X.H₀ b = none
 bsz : X.base.objs.size ≤ X.s₀.heap.objs.size
 noex : ∀ b o, X.base.get? b = some o → b ∉ X.ex
 exfs : ∀ b ∈ X.ex, b ∉ X.fs
 funs : X.s₀.heap.FunFrames X.base X.outer
 frf : ∀ b ∈ X.fs, X.H₀ b = none
 hnd : HdOk X.hx X.A
structure Inv (X : Cx) (pins : List (Addr × Obj)) (σ : List (Option V)) (H : Hp) (s : Shared) : Prop where
 ok : X.Ok
 os : s.os = X.s₀.os
 bare : AllBare s.gens
 base : Un X.fs X.ex X.H₀ H X.s₀.heap s.heap
 loc : ∃ m, s.heap.Ns X.env.locals m ∧ ∀ (i : Nat) (x : Str) (v : V), X.N[i]? = some x → σ[i]? = some (some v) → Vis X.env.scope x → ∃ u, RelV v u ∧ Look X.env s.heap m x u
 cell : ∀ x c, X.env.cells.lookup x = some c → ∃ v, s.heap.IsCell c v
 free : H X.env.locals = none
 freeC : ∀ x c, X.env.cells.lookup x = some c → H c = none
 pin : ∀ p ∈ X.pn ++ pins, s.heap.get? p.1 = some p.2 ∧ H p.1 = none ∧ p.1 ≠ X.env.locals ∧ p.1 ∉ X.fs ∧ ∀ v, p.2.data ≠ .cell v
 hok : HOk X.prog X.w H s.heap
 len : σ.length = X.N.length
 hxs : HxOk X.hx H
section
variable {X : Cx} {pins : List (Addr × Obj)} {σ : List (Option V)} {H H' : Hp} {s : Shared} {h' : Heap}
theorem Cx.Ok.nofr (ok : X.Ok) {b : Addr} {o : Obj} (e : X.base.get? b = some o) : b ∉ X.fs := fun hb => by
 have := (ok.funs.mem hb).1
 rw [e] at this; cases this
theorem Inv.bs (I : Inv X pins σ H s) : ∀ b o, X.base.get? b = some o → s.heap.get? b = some o ∧ H b = none := fun b o e =>
 ⟨I.base.keep b o (I.ok.bs b o e).1 (I.ok.bs b o e).2 (I.ok.nofr e) (I.ok.noex b o e), I.base.free b o (I.ok.bs b o e).1 (I.ok.bs b o e).2 (I.ok.noex b o e)⟩
theorem Inv.bk (I : Inv X pins σ H s) : ∀ b o, X.base.get? b = some o → s.heap.get? b = some o := fun b o e => (I.bs b o e).1
theorem Inv.mod (I : Inv X pins σ H s) : Mod X.K X.mg X.base := I.ok.mod
theorem Inv.kIn (I : Inv X pins σ H s) : X.K.In s.heap := I.ok.mod.kin.keeps I.bk
theorem Inv.fr (I : Inv X pins σ H s) : ∃ m, Fr X.base X.env.locals s.heap m :=
 let ⟨m, hn, _⟩ := I.loc
 ⟨m, hn, I.bk, Nat.le_trans I.ok.bsz I.ok.above⟩
theorem Inv.lt (I : Inv X pins σ H s) : X.env.locals < s.heap.objs.size := let ⟨_, hn, _⟩ := I.loc; hn.lt
theorem Inv.sz (I : Inv X pins σ H s) : X.s₀.heap.objs.size ≤ s.heap.objs.size := Nat.le_trans I.ok.above (Nat.le_of_lt I.lt)
theorem Inv.nofs (I : Inv X pins σ H s) {a : Addr} (h : s.heap.objs.size ≤ a) : a ∉ X.fs := fun hb => by
 obtain ⟨_, o, ho, _⟩ := I.ok.funs.mem hb
 exact absurd (Nat.lt_of_lt_of_le (Heap.lt_size ho) (Nat.le_trans I.sz h)) (Nat.lt_irrefl _)
theorem Inv.cne (I : Inv X pins σ H s) : ∀ x c, X.env.cells.lookup x = some c → c ≠ X.env.locals := fun x c e z => by
 obtain ⟨v, o, ho, hd⟩ := I.cell x c e
 obtain ⟨m, ⟨o', es, ep, ho', hd', _⟩, _⟩ := I.loc
 rw [z, ho'] at ho; cases ho; rw [hd'] at hd; cases hd
theorem Inv.funs (I : Inv X pins σ H s) : s.heap.FunFrames X.base X.outer := by
 have all : ∀ (l : List Env), (∀ b ∈ frs l, b ∈ X.fs) → X.s₀.heap.FunFrames X.base l → s.heap.FunFrames X.base l := by
  intro l
  induction l with
  | nil => intro _ _; trivial
  | cons env r ih =>
   intro hs hl
   obtain ⟨hk, ⟨L, o, hf, hn, ho, hd⟩, hr⟩ := hl
   have hL : L ∈ X.fs := hs L (by unfold frs; rw [List.filterMap_cons, hf]; exact List.mem_cons_self)
   obtain ⟨sl, e⟩ := I.base.slot L o ho (I.ok.frf L hL) hL fun z => I.ok.exfs L z hL
   exact ⟨hk, ⟨L, _, hf, hn, e, hd⟩, ih (fun b hb => hs b (by unfold frs; rw [List.filterMap_cons, hf]; exact List.mem_cons_of_mem _ hb)) hr⟩
 exact all X.outer (fun _ hb => hb) I.ok.funs
theorem Inv.stack (I : Inv X pins σ H s) : s.heap.FunFrames X.base X.stack := by
 rcases I.ok.stk with e | ⟨e, hf⟩
 ·rw [e]; exact I.funs
 ·rw [e]
  obtain ⟨m, hn, _⟩ := I.loc
  refine .cons (by rw [I.ok.kind]; decide) hf hn ?_ I.funs
  exact Heap.get?_none_of_le (Nat.le_trans I.ok.bsz I.ok.above)
theorem Inv.stkSub (I : Inv X pins σ H s) : ∀ b ∈ frs X.stack, b ∈ X.env.locals :: X.fs := fun b hb => by
 rcases I.ok.stk with e | ⟨e, hf⟩
 ·rw [e] at hb; exact List.mem_cons_of_mem _ hb
 ·rw [e] at hb
  unfold frs at hb
  rw [List.filterMap_cons, hf] at hb
  exact hb
theorem Inv.hdAt (I : Inv X pins σ H s) : HdAt X.A s.heap := by
 rcases I.ok.hnd with e | ⟨a, o, vs, e1, e2, e3, e4⟩
 ·exact .inl e
 ·obtain ⟨u, z⟩ := I.hxs a o e1
  exact .inr ⟨a, o, vs, e2, (I.hok a _ z).1, e3, e4⟩
theorem Inv.hdNe (I : Inv X pins σ H s) {b : Addr} (h : H b = none) : X.A.handled ≠ some (.ref b) := fun q => by
 rcases I.ok.hnd with e | ⟨a, o, vs, e1, e2, e3, e4⟩
 ·rw [e] at q; cases q
 ·obtain ⟨u, z⟩ := I.hxs a o e1
  rw [e2] at q; cases q
  rw [h] at z; cases z
theorem Inv.stkFree (I : Inv X pins σ H s) : ∀ b ∈ frs X.stack, H b = none := fun b hb => by
 rcases List.mem_cons.mp (I.stkSub b hb) with e | hb
 ·rw [e]; exact I.free
 ·obtain ⟨_, o, ho, _⟩ := I.ok.funs.mem hb
  exact I.base.free b o ho (I.ok.frf b hb) fun z => I.ok.exfs b z hb
theorem Inv.step {g' : Array GenState} {t' : Nat} {d' : Drawn} {ch : List Addr} (I : Inv X pins σ H s)
  (hch : ∀ b ∈ ch, (b ∈ X.ex ∨ X.s₀.heap.objs.size ≤ b) ∧ b ≠ X.env.locals ∧ (∀ x c, X.env.cells.lookup x = some c → c ≠ b) ∧ ∀ p ∈ X.pn ++ pins, p.1 ≠ b)
  (keep : ∀ b o, b ≠ X.env.locals → b ∉ X.fs → b ∉ ch → s.heap.get? b = some o → H b = none → h'.get? b = some o)
  (slot : ∀ b o, b ≠ X.env.locals → b ∈ X.fs → b ∉ ch → s.heap.get? b = some o → H b = none → ∃ sl, h'.get? b = some { o with slots := sl }) (free : ∀ b o, b ∉ ch → s.heap.get? b = some o → H b = none → H' b = none)
  (there : ∀ b o, b ∉ ch → s.heap.get? b = some o → ∃ o', h'.get? b = some o')
  (tups : ∀ b xs, H b = some (.tup xs) → H' b = some (.tup xs)) (frzs : ∀ b o u, H b = some (.frz o u) → H' b = some (.frz o u)) (tbls : ∀ b ps, H b = some (.tbl ps) → ∃ more, H' b = some (.tbl (ps ++ more)))
  (ns : ∀ m, s.heap.Ns X.env.locals m → h'.Ns X.env.locals m) (hok : HOk X.prog X.w H' h') (hg : AllBare g') :
  Inv X pins σ H' { s with heap := h', gens := g', drawn := d', toks := t' } := by
 have neL : ∀ b o, X.s₀.heap.get? b = some o → b ≠ X.env.locals := fun b o e => Nat.ne_of_lt (Nat.lt_of_lt_of_le (Heap.lt_size e) I.ok.above)
 have neC : ∀ b o, X.s₀.heap.get? b = some o → b ∉ X.ex → b ∉ ch := fun b o e hx hb => by
  rcases (hch b hb).1 with z | z
  ·exact hx z
  ·exact absurd (Nat.lt_of_lt_of_le (Heap.lt_size e) z) (Nat.lt_irrefl _)
 have cellK : ∀ x c, X.env.cells.lookup x = some c → ∀ v, s.heap.IsCell c v → h'.IsCell c v := fun x c e v ⟨o, ho, hd⟩ => by
  have nch : c ∉ ch := fun z => (hch c z).2.2.1 x c e rfl
  by_cases hc : c ∈ X.fs
  ·obtain ⟨sl, q⟩ := slot c o (I.cne x c e) hc nch ho (I.freeC x c e)
   exact ⟨_, q, hd⟩
  ·exact ⟨o, keep c o (I.cne x c e) hc nch ho (I.freeC x c e), hd⟩
 refine ⟨I.ok, I.os, hg, ⟨fun b o e n hb hx => ?_, fun b o e n hb hx => ?_, fun b o e n hx => ?_, fun b o e hx => ?_, fun b xs e => tups b xs (I.base.tups b xs e), fun b o xs e => frzs b o xs (I.base.frzs b o xs e), fun b ps e => ?_⟩, ?_, fun x c e => ?_, ?_, fun x c e => ?_, fun p hp => ?_, hok, I.len, fun a o e => let ⟨u, z⟩ := I.hxs a o e; ⟨u, frzs a o u z⟩⟩
 ·exact keep b o (neL b o e) hb (neC b o e hx) (I.base.keep b o e n hb hx) (I.base.free b o e n hx)
 ·obtain ⟨sl, e1⟩ := I.base.slot b o e n hb hx
  obtain ⟨sl', e2⟩ := slot b _ (neL b o e) hb (neC b o e hx) e1 (I.base.free b o e n hx)
  exact ⟨sl', e2⟩
 ·obtain ⟨o', e1⟩ := I.base.there b o e hx
  exact free b o' (neC b o e hx) e1 (I.base.free b o e n hx)
 ·obtain ⟨o', e1⟩ := I.base.there b o e hx
  exact there b o' (neC b o e hx) e1
 ·obtain ⟨m1, e1⟩ := I.base.tbls b ps e
  obtain ⟨m2, e2⟩ := tbls b _ e1
  exact ⟨m1 ++ m2, by rw [e2, Array.append_assoc]⟩
 ·obtain ⟨m, hn, hl⟩ := I.loc
  refine ⟨m, ns m hn, fun i x v e1 e2 e3 => ?_⟩
  obtain ⟨u, r, l⟩ := hl i x v e1 e2 e3
  refine ⟨u, r, ?_⟩
  rcases l with l | ⟨k, c, e, z⟩
  ·exact .inl l
  ·exact .inr ⟨k, c, e, cellK x c e _ z⟩
 ·obtain ⟨v, z⟩ := I.cell x c e
  exact ⟨v, cellK x c e v z⟩
 ·obtain ⟨m, ⟨o, _, _, ho, _⟩, _⟩ := I.loc
  exact free _ o (fun z => (hch _ z).2.1 rfl) ho I.free
 ·obtain ⟨v, o, ho, hd⟩ := I.cell x c e
  exact free c o (fun z => (hch c z).2.2.1 x c e rfl) ho (I.freeC x c e)
 ·obtain ⟨e, n, ne, nf, d⟩ := I.pin p hp
  have nch : p.1 ∉ ch := fun z => (hch p.1 z).2.2.2 p hp rfl
  exact ⟨keep p.1 p.2 ne nf nch e n, free p.1 p.2 nch e n, ne, nf, d⟩
theorem Inv.un {t' : Nat} (I : Inv X pins σ H s) (u : Un X.fs [] H H' s.heap h') (hok : HOk X.prog X.w H' h') : Inv X pins σ H' { s with heap := h', toks := t' } := by
 obtain ⟨m, ⟨o, es, ep, ho, r⟩, _⟩ := id I.loc
 obtain ⟨sl, hL⟩ := u.any ho I.free (by simp)
 exact I.step (g' := s.gens) (d' := s.drawn) (ch := []) (fun _ z => nomatch z) (fun b o _ hb _ e n => u.keep b o e n hb (by simp)) (fun b o _ hb _ e n => u.slot b o e n hb (by simp)) (fun b o _ e n => u.free b o e n (by simp)) (fun b o _ e => u.there b o e (by simp)) u.tups u.frzs u.tbls (fun m' hm => by
  obtain ⟨o', es', ep', ho', r'⟩ := hm
  rw [ho] at ho'; cases ho'
  exact ⟨_, es', ep', hL, r'⟩) hok I.bare
theorem Inv.call {g' : Array GenState} {t' : Nat} {d' : Drawn} {ch : List Addr} (I : Inv X pins σ H s) (u : Un (frs X.stack) ch H H' s.heap h') (hok : HOk X.prog X.w H' h') (hg : AllBare g')
  (hch : ∀ b ∈ ch, (b ∈ X.ex ∨ X.s₀.heap.objs.size ≤ b) ∧ b ≠ X.env.locals ∧ (∀ x c, X.env.cells.lookup x = some c → c ≠ b) ∧ ∀ p ∈ X.pn ++ pins, p.1 ≠ b) :
  Inv X pins σ H' { s with heap := h', gens := g', drawn := d', toks := t' } := by
 obtain ⟨m, ⟨o, es, ep, ho, r⟩, _⟩ := id I.loc
 obtain ⟨sl, hL⟩ := u.any ho I.free fun z => (hch _ z).2.1 rfl
 exact I.step (ch := ch) hch (fun b o hL hb hc e n => u.keep b o e n (fun z => (List.mem_cons.mp (I.stkSub b z)).elim hL hb) hc) (fun b o _ _ hc e n => u.any e n hc) (fun b o hc e n => u.free b o e n hc) (fun b o hc e => u.there b o e hc) u.tups u.frzs u.tbls (fun m' hm => by
  obtain ⟨o', es', ep', ho', r'⟩ := hm
  rw [ho] at ho'; cases ho'
  exact ⟨_, es', ep', hL, r'⟩) hok hg
theorem Inv.turned {t' : Nat} {it : Addr} (I : Inv X pins σ H s) (k : ∀ b o, b ≠ it → s.heap.get? b = some o → h'.get? b = some o) (hn : H it = none) (hL : it ≠ X.env.locals)
  (h1 : it ∈ X.ex ∨ X.s₀.heap.objs.size ≤ it) (h2 : ∀ x c, X.env.cells.lookup x = some c → c ≠ it) (h3 : ∀ p ∈ X.pn ++ pins, p.1 ≠ it) : Inv X pins σ H { s with heap := h', toks := t' } := by
 have nit : ∀ b u, H b = some u → b ≠ it := fun b u e z => by rw [z, hn] at e; cases e
 refine I.step (g' := s.gens) (d' := s.drawn) (ch := [it]) (fun b hb => ?_) (fun b o _ _ hc e _ => k b o (fun z => hc (by simp [z])) e) (fun b o _ _ hc e _ => ⟨o.slots, k b o (fun z => hc (by simp [z])) e⟩) (fun _ _ _ _ n => n)
  (fun b o hc e => ⟨o, k b o (fun z => hc (by simp [z])) e⟩) (fun _ _ e => e) (fun _ _ _ e => e) (fun b ps e => ⟨#[], by rw [e]; simp⟩) (fun m hm => ?_) (fun b u e => ?_) I.bare
 ·have e : b = it := by simpa using hb
  subst e
  exact ⟨h1, hL, h2, h3⟩
 ·obtain ⟨o, es, ep, ho, r⟩ := hm
  exact ⟨o, es, ep, k _ o (Ne.symm hL) ho, r⟩
 ·refine (I.hok b u e).stay (fun c v hc q => k c v ?_ q) (fun _ q => q) fun _ _ q => q
  rcases hc with z | z
  ·rw [z]; exact nit b u e
  ·exact nit c _ z
theorem Inv.tok (I : Inv X pins σ H s) (t : Nat) : Inv X pins σ H { s with toks := t } := I.un (h' := s.heap) (t' := t) Un.refl I.hok
theorem Inv.kept {t' : Nat} (I : Inv X pins σ H s) (k : ∀ b u, s.heap.get? b = some u → h'.get? b = some u) : Inv X pins σ H { s with heap := h', toks := t' } := I.un (Un.kept k) (I.hok.kept k)
theorem Inv.laid {a : Addr} {o : HO} {t' : Nat} (I : Inv X pins σ H s) (k : ∀ b u, s.heap.get? b = some u → h'.get? b = some u) (hp : s.heap.objs.size ≤ a) (new : ObjOk X.prog X.w (upd H a o) h' a o) :
  Inv X pins σ (upd H a o) { s with heap := h', toks := t' } := I.un (Un.laid k hp (I.hok.fresh hp)) (I.hok.laid k hp new)
theorem Inv.write {x e : Addr} {o : HO} {t' : Nat} (I : Inv X pins σ H s) (mu : Mut (H x)) (he : e = x ∨ H e = some (.own x)) (k : ∀ b u, b ≠ e → s.heap.get? b = some u → h'.get? b = some u) (heo : ∃ u, h'.get? e = some u)
  (new : ObjOk X.prog X.w (upd H x o) h' x o) : Inv X pins σ (upd H x o) { s with heap := h', toks := t' } := I.un (Un.write mu he k heo) (I.hok.write mu he k heo new)
theorem Inv.weak {σ' : List (Option V)} (I : Inv X pins σ H s) (hl : σ'.length = σ.length) (w : ∀ (i : Nat) v, σ'[i]? = some (some v) → σ[i]? = some (some v)) : Inv X pins σ' H s :=
 ⟨I.ok, I.os, I.bare, I.base, let ⟨m, hn, hl'⟩ := I.loc; ⟨m, hn, fun i x v e1 e2 e3 => hl' i x v e1 (w i v e2) e3⟩, I.cell, I.free, I.freeC, I.pin, I.hok, hl.trans I.len, I.hxs⟩
theorem Inv.pins_of {pins' : List (Addr × Obj)} (I : Inv X pins σ H s) (h : ∀ p ∈ pins', s.heap.get? p.1 = some p.2 ∧ H p.1 = none ∧ p.1 ≠ X.env.locals ∧ p.1 ∉ X.fs ∧ ∀ v, p.2.data ≠ .cell v) : Inv X pins' σ H s :=
 ⟨I.ok, I.os, I.bare, I.base, I.loc, I.cell, I.free, I.freeC, fun p hp => (List.mem_append.mp hp).elim (fun z => I.pin p (List.mem_append_left _ z)) (h p), I.hok, I.len, I.hxs⟩
theorem nodup_ix {N : List Str} (hN : N.Nodup) {i j : Nat} {x : Str} (a : N[i]? = some x) (b : N[j]? = some x) : i = j := by
 obtain ⟨h1, e1⟩ := List.getElem?_eq_some_iff.mp a
 obtain ⟨h2, e2⟩ := List.getElem?_eq_some_iff.mp b
 exact (List.getElem_inj hN).mp (e1.trans e2.symm)
theorem store_ok2 {M : Model} {A : Around} {E : Value → Shared → Prop} {i : Nat} {x : Str} {v : V} {u : Value} {Q : Unit → Shared → Prop} (I : Inv X pins σ H s) (hN : X.N.Nodup) (hi : X.N[i]? = some x) (hx : Loc X.env.scope x) (r : RelV v u)
  (h : ∀ s', Inv X pins (σ.set i (some v)) H s' → (∃ a, Heap.SameBut a s.heap s'.heap ∧ (a = X.env.locals ∨ X.env.cells.lookup x = some a)) → Q () s') (hf : X.fn x = true ∨ X.env.scope.names.lookup x = some .local := by first | exact .inl rfl | exact .inr rfl | assumption) : wpAny M A (storeName X.env x u) Q E s := by
 obtain ⟨m, hn, hl⟩ := id I.loc
 have hcls : (X.env.scope.kind == .class || (X.env.scope.kind == .module && X.env.locals != X.env.globals)) = false := by rw [I.ok.kind]; rfl
 have hiσ : i < σ.length := by rw [I.len]; exact (List.getElem?_eq_some_iff.mp hi).1
 have cne := I.cne
 have tracked : ∀ {a : Addr} {h' : Heap}, (∃ o, s.heap.get? a = some o ∧ H a = none) → Heap.SameBut a s.heap h' → HOk X.prog X.w H h' := fun {a h'} ha hs b ob e => by
  obtain ⟨_, _, hfree⟩ := ha
  refine (I.hok b ob e).stay (fun c w' hc q => (hs.2 c ?_).trans q) (fun _ q => q) fun _ _ q => q
  rintro rfl
  rcases hc with rfl | hc
  ·rw [hfree] at e; cases e
  ·rw [hfree] at hc; cases hc
 rcases hx with hk | hk
 ·refine wpAny_storeName_local hk hn (fun h' hn' hs => ?_) hcls
  obtain ⟨oL, _, _, hoL, _⟩ := id hn
  refine h _ ⟨I.ok, I.os, I.bare, ⟨fun b o e n hb hx => ?_, fun b o e n hb hx => ?_, I.base.free, fun b o e hx => ?_, I.base.tups, I.base.frzs, I.base.tbls⟩, ⟨_, hn', fun j y v' e1 e2 e3 => ?_⟩, fun y c e => ?_, I.free, I.freeC, fun p hp => ?_, tracked ⟨oL, hoL, I.free⟩ hs, by simpa using I.len, I.hxs⟩ ⟨_, hs, .inl rfl⟩
  ·exact (hs.2 b (Nat.ne_of_lt (Nat.lt_of_lt_of_le (Heap.lt_size e) I.ok.above))).trans (I.base.keep b o e n hb hx)
  ·obtain ⟨sl, e1⟩ := I.base.slot b o e n hb hx
   exact ⟨sl, (hs.2 b (Nat.ne_of_lt (Nat.lt_of_lt_of_le (Heap.lt_size e) I.ok.above))).trans e1⟩
  ·obtain ⟨o', e1⟩ := I.base.there b o e hx
   exact ⟨o', (hs.2 b (Nat.ne_of_lt (Nat.lt_of_lt_of_le (Heap.lt_size e) I.ok.above))).trans e1⟩
  ·by_cases hj : j = i
   ·subst hj
    rw [hi] at e1; cases e1
    rw [List.getElem?_set_self hiσ] at e2
    cases e2
    exact ⟨u, r, .inl ⟨hk, by simp⟩⟩
   ·rw [List.getElem?_set_ne (Ne.symm hj)] at e2
    obtain ⟨u', r', q⟩ := hl j y v' e1 e2 e3
    refine ⟨u', r', ?_⟩
    rcases q with ⟨k, e⟩ | ⟨k, c, e, z⟩
    ·refine .inl ⟨k, ?_⟩
     have : y ≠ x := fun e => hj (nodup_ix hN e1 (e ▸ hi))
     simp [this, e]
    ·exact .inr ⟨k, c, e, z.sameBut hs (cne y c e)⟩
  ·obtain ⟨w', z⟩ := I.cell y c e
   exact ⟨w', z.sameBut hs (cne y c e)⟩
  ·obtain ⟨e, n, ne, nf, d⟩ := I.pin p hp
   exact ⟨(hs.2 p.1 ne).trans e, n, ne, nf, d⟩
 ·have hfn : X.fn x = true := by
   rcases hf with z | z
   ·exact z
   ·rw [z] at hk; cases hk
  obtain ⟨c, hc⟩ := I.ok.has x (.inl hk)
  obtain ⟨w', z⟩ := I.cell x c hc
  refine wpAny_storeName_cell I.ok.kind hk hc z (fun h' hc' hs => ?_)
  obtain ⟨oc, hoc, hocd⟩ := id z
  refine h { s with heap := h' } ⟨I.ok, I.os, I.bare, ⟨fun b o e n hb hx => ?_, fun b o e n hb hx => ?_, I.base.free, fun b o e hx => ?_, I.base.tups, I.base.frzs, I.base.tbls⟩, ⟨m, hn.sameBut hs (Ne.symm (cne x c hc)), fun j y v' e1 e2 e3 => ?_⟩, fun y c' e => ?_, I.free, I.freeC, fun p hp => ?_, tracked ⟨oc, hoc, I.freeC x c hc⟩ hs, by simpa using I.len, I.hxs⟩ ⟨c, hs, .inr hc⟩
  ·exact (hs.2 b (Nat.ne_of_lt (Nat.lt_of_lt_of_le (Heap.lt_size e) (I.ok.cab x c hfn hc)))).trans (I.base.keep b o e n hb hx)
  ·obtain ⟨sl, e1⟩ := I.base.slot b o e n hb hx
   exact ⟨sl, (hs.2 b (Nat.ne_of_lt (Nat.lt_of_lt_of_le (Heap.lt_size e) (I.ok.cab x c hfn hc)))).trans e1⟩
  ·obtain ⟨o', e1⟩ := I.base.there b o e hx
   exact ⟨o', (hs.2 b (Nat.ne_of_lt (Nat.lt_of_lt_of_le (Heap.lt_size e) (I.ok.cab x c hfn hc)))).trans e1⟩
  ·by_cases hj : j = i
   ·subst hj
    rw [hi] at e1; cases e1
    rw [List.getElem?_set_self hiσ] at e2
    cases e2
    exact ⟨u, r, .inr ⟨.inl hk, c, hc, hc'⟩⟩
   ·rw [List.getElem?_set_ne (Ne.symm hj)] at e2
    obtain ⟨u', r', q⟩ := hl j y v' e1 e2 e3
    refine ⟨u', r', ?_⟩
    rcases q with q | ⟨k, c', e, z'⟩
    ·exact .inl q
    ·refine .inr ⟨k, c', e, z'.sameBut hs ?_⟩
     rintro rfl
     exact hj (nodup_ix hN e1 (I.ok.inj _ _ _ e hc ▸ hi))
  ·by_cases hcc : c' = c
   ·subst hcc; exact ⟨_, hc'⟩
   ·obtain ⟨w2, z2⟩ := I.cell y c' e
    exact ⟨w2, z2.sameBut hs hcc⟩
  ·obtain ⟨e, n, ne, nf, d⟩ := I.pin p hp
   refine ⟨(hs.2 p.1 ?_).trans e, n, ne, nf, d⟩
   intro q
   rw [q, hoc] at e
   have q' : oc = p.2 := Option.some.inj e
   exact d w' (by rw [← q']; exact hocd)
theorem store_ok {M : Model} {A : Around} {E : Value → Shared → Prop} {i : Nat} {x : Str} {v : V} {u : Value} {Q : Unit → Shared → Prop} (I : Inv X pins σ H s) (hN : X.N.Nodup) (hi : X.N[i]? = some x) (hx : Loc X.env.scope x) (r : RelV v u)
  (h : ∀ s', Inv X pins (σ.set i (some v)) H s' → Q () s') (hf : X.fn x = true ∨ X.env.scope.names.lookup x = some .local := by first | exact .inl rfl | exact .inr rfl | assumption) : wpAny M A (storeName X.env x u) Q E s :=
 store_ok2 I hN hi hx r (fun s' I' _ => h s' I') hf
theorem Inv.call' {s' : Shared} {ch : List Addr} (I : Inv X pins σ H s) (ho : s'.os = s.os) (u : Un (frs X.stack) ch H H' s.heap s'.heap) (hok : HOk X.prog X.w H' s'.heap) (hg : AllBare s'.gens)
  (hch : ∀ b ∈ ch, (b ∈ X.ex ∨ X.s₀.heap.objs.size ≤ b) ∧ b ≠ X.env.locals ∧ (∀ x c, X.env.cells.lookup x = some c → c ≠ b) ∧ ∀ p ∈ X.pn ++ pins, p.1 ≠ b) : Inv X pins σ H' s' := by
 obtain ⟨h', g', d', t', o'⟩ := s'
 have e : o' = s.os := ho
 subst e
 exact I.call (g' := g') (t' := t') (d' := d') u hok hg hch
end
noncomputable abbrev XK := Value → Option Addr → Hp → Prop
noncomputable abbrev St := List (Option V)
noncomputable abbrev VK := V → Hp → Prop
noncomputable abbrev TE := St → Hp → VK → Prop
noncomputable abbrev TT := St → Hp → (Bool → Hp → Prop) → Prop
noncomputable abbrev TA := St → Hp → (List V → Hp → Prop) → Prop
structure Ends where
 nx : St → Hp → Prop
 rt : VK
 bk : St → Hp → Prop := fun _ _ => False
 ct : St → Hp → Prop := fun _ _ => False
noncomputable abbrev TS := Ends → St → Hp → Prop
noncomputable def EP (X : Cx) (pins : List (Addr × Obj)) (σ : St) (Q : VK) (u : Value) (s' : Shared) : Prop := ∃ v H', Inv X pins σ H' s' ∧ RelV v u ∧ Q v H'
noncomputable def TP (X : Cx) (pins : List (Addr × Obj)) (σ : St) (Q : Bool → Hp → Prop) (b : Bool) (s' : Shared) : Prop := ∃ H', Inv X pins σ H' s' ∧ Q b H'
noncomputable def AP (X : Cx) (pins : List (Addr × Obj)) (σ : St) (Q : List V → Hp → Prop) (us : List Value) (s' : Shared) : Prop := ∃ vs H', Inv X pins σ H' s' ∧ Vals vs us ∧ Q vs H'
noncomputable def SP (X : Cx) (pins : List (Addr × Obj)) (D : Ends) (f : Flow) (s' : Shared) : Prop :=
 match f with
 | .next => ∃ σ' H', Inv X pins σ' H' s' ∧ D.nx σ' H'
 | .brk => ∃ σ' H', Inv X pins σ' H' s' ∧ D.bk σ' H'
 | .cont => ∃ σ' H', Inv X pins σ' H' s' ∧ D.ct σ' H'
 | .ret u => ∃ v σ' H', Inv X pins σ' H' s' ∧ RelV v u ∧ D.rt v H'
structure PE (X : Cx) (e : Expr) (t : TE) : Prop where
 run : ∀ (pins : List (Addr × Obj)) (s : Shared) (σ : St) (H : Hp) (Q : VK), Inv X pins σ H s → t σ H Q → wpAny (model X.prog X.w) X.A (eval e X.env) (EP X pins σ Q) X.xe s
instance {X : Cx} {e : Expr} {t : TE} : CoeFun (PE X e t) (fun _ => ∀ (pins : List (Addr × Obj)) (s : Shared) (σ : St) (H : Hp) (Q : VK), Inv X pins σ H s → t σ H Q → wpAny (model X.prog X.w) X.A (eval e X.env) (EP X pins σ Q) X.xe s) := ⟨fun h => h.run⟩
structure PT (X : Cx) (e : Expr) (t : TT) : Prop where
 run : ∀ (pins : List (Addr × Obj)) (s : Shared) (σ : St) (H : Hp) (Q : Bool → Hp → Prop), Inv X pins σ H s → t σ H Q → wpAny (model X.prog X.w) X.A (isTrue e X.env (eval e X.env)) (TP X pins σ Q) X.xe s
instance {X : Cx} {e : Expr} {t : TT} : CoeFun (PT X e t) (fun _ => ∀ (pins : List (Addr × Obj)) (s : Shared) (σ : St) (H : Hp) (Q : Bool → Hp → Prop), Inv X pins σ H s → t σ H Q → wpAny (model X.prog X.w) X.A (isTrue e X.env (eval e X.env)) (TP X pins σ Q) X.xe s) := ⟨fun h => h.run⟩
structure PW (X : Cx) (e : Expr) (t : TT) : Prop where
 run : ∀ (whole : Sem Value) (pins : List (Addr × Obj)) (s : Shared) (σ : St) (H : Hp) (Q : Bool → Hp → Prop), Inv X pins σ H s → t σ H Q → wpAny (model X.prog X.w) X.A (isTrue e X.env whole) (TP X pins σ Q) X.xe s
instance {X : Cx} {e : Expr} {t : TT} : CoeFun (PW X e t) (fun _ => ∀ (whole : Sem Value) (pins : List (Addr × Obj)) (s : Shared) (σ : St) (H : Hp) (Q : Bool → Hp → Prop), Inv X pins σ H s → t σ H Q → wpAny (model X.prog X.w) X.A (isTrue e X.env whole) (TP X pins σ Q) X.xe s) := ⟨fun h => h.run⟩
theorem PW.pt {X : Cx} {e : Expr} {t : TT} (h : PW X e t) : PT X e t := .mk (h _)
structure PA (X : Cx) (es : List Expr) (t : TA) : Prop where
 run : ∀ (pos : Pos) (pins : List (Addr × Obj)) (s : Shared) (σ : St) (H : Hp) (Q : List V → Hp → Prop), Inv X pins σ H s → t σ H Q → wpAny (model X.prog X.w) X.A (spliced (backTo pos (starEach es X.env))) (AP X pins σ Q) X.xe s
instance {X : Cx} {es : List Expr} {t : TA} : CoeFun (PA X es t) (fun _ => ∀ (pos : Pos) (pins : List (Addr × Obj)) (s : Shared) (σ : St) (H : Hp) (Q : List V → Hp → Prop), Inv X pins σ H s → t σ H Q → wpAny (model X.prog X.w) X.A (spliced (backTo pos (starEach es X.env))) (AP X pins σ Q) X.xe s) := ⟨fun h => h.run⟩
structure PS (X : Cx) (st : Stmt) (t : TS) : Prop where
 run : ∀ (pins : List (Addr × Obj)) (s : Shared) (σ : St) (H : Hp) (D : Ends), Inv X pins σ H s → t D σ H → wpAny (model X.prog X.w) X.A (exec st X.env) (SP X pins D) X.xe s
instance {X : Cx} {st : Stmt} {t : TS} : CoeFun (PS X st t) (fun _ => ∀ (pins : List (Addr × Obj)) (s : Shared) (σ : St) (H : Hp) (D : Ends), Inv X pins σ H s → t D σ H → wpAny (model X.prog X.w) X.A (exec st X.env) (SP X pins D) X.xe s) := ⟨fun h => h.run⟩
structure PSs (X : Cx) (st : List Stmt) (t : TS) : Prop where
 run : ∀ (pins : List (Addr × Obj)) (s : Shared) (σ : St) (H : Hp) (D : Ends), Inv X pins σ H s → t D σ H → wpAny (model X.prog X.w) X.A (execs st X.env) (SP X pins D) X.xe s
instance {X : Cx} {st : List Stmt} {t : TS} : CoeFun (PSs X st t) (fun _ => ∀ (pins : List (Addr × Obj)) (s : Shared) (σ : St) (H : Hp) (D : Ends), Inv X pins σ H s → t D σ H → wpAny (model X.prog X.w) X.A (execs st X.env) (SP X pins D) X.xe s) := ⟨fun h => h.run⟩
theorem thn {α : Type} {t : Sem α} {Q Q' : α → Shared → Prop} {M : Model} {A : Around} {E : Value → Shared → Prop} {s : Shared} (h : wpAny M A t Q E s) (hQ : ∀ a s, Q a s → Q' a s) : wpAny M A t Q' E s := wpAny_mono h hQ fun _ _ x => x
end L2
namespace L2
open PySem PySem.Spec PyProof.Rows
section
variable {X : Cx}
noncomputable def tVar (i : Nat) : TE := fun σ H Q => ∃ v, σ[i]? = some (some v) ∧ Q v H
noncomputable def tC (v : V) : TE := fun _ H Q => Q v H
theorem pe_var {i : Nat} {x : Str} {pos : Pos} (hN : X.N[i]? = some x) (hv : Vis X.env.scope x) (hd : (x == ("__debug__" : Str)) = false := by decide) (hcd : (x == ("__classdict__" : Str)) = false := by decide) : PE X (.Name x pos) (tVar i) := by
 constructor
 intro pins s σ H Q I h
 obtain ⟨v, e, h⟩ := h
 obtain ⟨m, hn, hl⟩ := I.loc
 obtain ⟨u, r, l⟩ := hl i x v hN e hv
 have fin : EP X pins σ Q u s := ⟨v, H, I, r, h⟩
 rcases l with ⟨hk, hm⟩ | ⟨hk, c, hc, hcell⟩
 ·exact wpAny_Name (wpAny_loadName_local I.ok.kind hk hn hm fin) hd
 ·rcases hk with hk | hk
  ·exact wpAny_Name (wpAny_loadName_cell I.ok.kind hk hc hcell fin) hd
  ·exact wpAny_Name (wpAny_loadName_free I.ok.kind hk hc hcell fin hcd) hd
theorem pe_int {i j pos} : PE X (.Constant (.int i) j pos) (tC (.int i)) := .mk fun _ _ _ H _ I h => wpAny_Constant_int ⟨.int i, H, I.tok _, ⟨_, rfl⟩, h⟩
theorem pe_bl {b j pos} : PE X (.Constant (.bool b) j pos) (tC (.bl b)) := .mk fun _ _ _ H _ I h => Constant_bool ⟨.bl b, H, I, rfl, h⟩
theorem pe_non {j pos} : PE X (.Constant .none j pos) (tC .non) := .mk fun _ _ _ H _ I h => Constant_none ⟨.non, H, I, rfl, h⟩
theorem pe_str {x j pos} : PE X (.Constant (.str x) j pos) (tC (.str x)) := .mk fun _ _ _ H _ I h => Calls.Constant_str ⟨.str x, H, I.tok _, ⟨_, rfl⟩, h⟩
noncomputable def Gl (X : Cx) (x : Str) : Prop := X.env.kindOf x = some .globalImplicit
theorem ld_glob {E : Value → Shared → Prop} {pins : List (Addr × Obj)} {s : Shared} {σ : St} {H : Hp} {x : Str} {u : Value} {pos : Pos} {Q : Value → Shared → Prop} (I : Inv X pins σ H s) (hg : Gl X x) (hm : X.mg x = some u) (h : Q u s)
  (hd : (x == ("__debug__" : Str)) = false := by decide) : wpAny (model X.prog X.w) X.A (eval (.Name x pos) X.env) Q E s :=
 Calls.Name_function_global I.ok.kind hg (Calls.loadGlobal_global (by rw [I.ok.glob]; exact I.mod.glob.keeps I.bk) hm h) hd
theorem ld_blt {E : Value → Shared → Prop} {pins : List (Addr × Obj)} {s : Shared} {σ : St} {H : Hp} {x : Str} {u : Value} {pos : Pos} {Q : Value → Shared → Prop} (I : Inv X pins σ H s) (hg : Gl X x) (hm : X.mg x = none) (hv : bootBuiltins x = some u) (h : Q u s)
  (hn : x ≠ "__name__" := by decide) (hd : (x == ("__debug__" : Str)) = false := by decide) : wpAny (model X.prog X.w) X.A (eval (.Name x pos) X.env) Q E s := by
 obtain ⟨mb, h1, h2⟩ := I.mod.blt
 exact Calls.Name_function_global I.ok.kind hg (Calls.loadGlobal_builtin (by rw [I.ok.glob]; exact I.mod.glob.keeps I.bk) hm (by rw [I.ok.blt]; exact h1.keeps I.bk) ((h2 x hn).trans hv) h) hd
theorem pe_glob {x : Str} {v : V} {u : Value} {pos : Pos} (hg : Gl X x) (hm : X.mg x = some u) (r : RelV v u) (hd : (x == ("__debug__" : Str)) = false := by decide) : PE X (.Name x pos) (tC v) :=
 .mk fun _ _ _ H _ I h => ld_glob I hg hm ⟨v, H, I, r, h⟩ hd
theorem pe_bltn {x : Str} {v : V} {u : Value} {pos : Pos} (hg : Gl X x) (hm : X.mg x = none) (hv : bootBuiltins x = some u) (r : RelV v u) (hn : x ≠ "__name__" := by decide) (hd : (x == ("__debug__" : Str)) = false := by decide) : PE X (.Name x pos) (tC v) :=
 .mk fun _ _ _ H _ I h => ld_blt I hg hm hv ⟨v, H, I, r, h⟩ hn hd
noncomputable def t2I (ta tb : TE) (k : Int → Int → Hp → Prop) : St → Hp → Prop := fun σ H => ta σ H fun x H1 => tb σ H1 fun y H2 => ∃ i j, x = .int i ∧ y = .int j ∧ k i j H2
noncomputable def tAdd (ta tb : TE) : TE := fun σ H Q => t2I ta tb (fun i j H2 => Q (.int (i + j)) H2) σ H
noncomputable def tSub (ta tb : TE) : TE := fun σ H Q => t2I ta tb (fun i j H2 => Q (.int (i - j)) H2) σ H
noncomputable def tMul (ta tb : TE) : TE := fun σ H Q => t2I ta tb (fun i j H2 => (-(2 ^ 64) < i ∧ i < 2 ^ 64) ∧ Q (.int (i * j)) H2) σ H
variable {a b : Expr} {ta tb : TE} {pos : Pos}
structure PC (X : Cx) (op : CmpOp) (a b : Expr) (t : TE) : Prop where
 run : ∀ (pins : List (Addr × Obj)) (s : Shared) (σ : St) (H : Hp) (Q : VK), Inv X pins σ H s → t σ H Q →
  wpAny (model X.prog X.w) X.A (eval a X.env) (fun v s₁ => wpAny (model X.prog X.w) X.A (eval b X.env) (fun u s₂ => wpAny (model X.prog X.w) X.A (compareOp op v u) (EP X pins σ Q) X.xe s₂) X.xe s₁) X.xe s
instance {X : Cx} {op : CmpOp} {a b : Expr} {t : TE} : CoeFun (PC X op a b t) (fun _ => ∀ (pins : List (Addr × Obj)) (s : Shared) (σ : St) (H : Hp) (Q : VK), Inv X pins σ H s → t σ H Q →
  wpAny (model X.prog X.w) X.A (eval a X.env) (fun v s₁ => wpAny (model X.prog X.w) X.A (eval b X.env) (fun u s₂ => wpAny (model X.prog X.w) X.A (compareOp op v u) (EP X pins σ Q) X.xe s₂) X.xe s₁) X.xe s) := ⟨fun h => h.run⟩
theorem nobehind (b : Expr) {op : CmpOp} (h : op ≠ .In) (h2 : op ≠ .NotIn) : behindInMarks op b = false := by
 have e1 : (op == CmpOp.In) = false := by cases op <;> first | rfl | exact absurd rfl h
 have e2 : (op == CmpOp.NotIn) = false := by cases op <;> first | rfl | exact absurd rfl h2
 cases b <;> simp [behindInMarks, e1, e2]
noncomputable def tCmp (p : Int → Int → Bool) (ta tb : TE) : TE := fun σ H Q => t2I ta tb (fun i j H2 => Q (.bl (p i j)) H2) σ H
noncomputable abbrev tLt : TE → TE → TE := tCmp fun i j => decide (i < j)
noncomputable abbrev tLe : TE → TE → TE := tCmp fun i j => decide (i ≤ j)
noncomputable abbrev tGt : TE → TE → TE := tCmp fun i j => decide (j < i)
noncomputable abbrev tGe : TE → TE → TE := tCmp fun i j => decide (j ≤ i)
noncomputable abbrev tEqI : TE → TE → TE := tCmp fun i j => decide (i = j)
noncomputable abbrev tNeI : TE → TE → TE := tCmp fun i j => !decide (i = j)
noncomputable def tIsN (ta : TE) : TE := fun σ H Q => ta σ H fun x H1 => Q (.bl (decide (x = .non))) H1
noncomputable def tNotN (ta : TE) : TE := fun σ H Q => ta σ H fun x H1 => Q (.bl (!decide (x = .non))) H1
theorem RelV.none_iff {x : V} {v : Value} (r : RelV x v) : (v == Value.none) = decide (x = .non) := by
 cases x with
 | non => cases r; rfl
 | bl _ => cases r; rfl
 | int _ => obtain ⟨t, rfl⟩ := r; rfl
 | str _ => obtain ⟨t, rfl⟩ := r; rfl
 | byt _ => obtain ⟨t, rfl⟩ := r; rfl
 | flt _ => obtain ⟨t, rfl⟩ := r; rfl
 | ref _ => cases r; rfl
 | ty _ => cases r; rfl
theorem pc_isN {j pos'} (ha : PE X a ta) : PC X .Is a (.Constant .none j pos') (tIsN ta) := by
 constructor
 intro pins s σ H Q I h
 refine thn (ha pins s σ H _ I h) fun v s1 ⟨x, H1, I1, r1, q1⟩ => ?_
 exact Constant_none (is_none_gen ⟨.bl _, H1, I1, by rw [r1.none_iff]; rfl, q1⟩)
theorem pc_notN {j pos'} (ha : PE X a ta) : PC X .IsNot a (.Constant .none j pos') (tNotN ta) := by
 constructor
 intro pins s σ H Q I h
 refine thn (ha pins s σ H _ I h) fun v s1 ⟨x, H1, I1, r1, q1⟩ => ?_
 exact Constant_none (isnot_none_gen ⟨.bl _, H1, I1, by rw [r1.none_iff]; rfl, q1⟩)
noncomputable def tB (t : TE) : TT := fun σ H Q => t σ H fun x H1 => ∃ c, x = .bl c ∧ Q c H1
theorem pe_cmp {op : CmpOp} {t : TE} (h : PC X op a b t) (h1 : behindInMarks op b = false := by first | exact nobehind _ (by decide) (by decide) | rfl) : PE X (.Compare a [op] [b] pos) t := .mk fun pins s σ H Q I hw => wpAny_Compare1 (h pins s σ H Q I hw) h1
theorem pt_cmp {op : CmpOp} {t : TE} (h : PC X op a b t) (h1 : behindInMarks op b = false := by first | exact nobehind _ (by decide) (by decide) | rfl) : PT X (.Compare a [op] [b] pos) (tB t) := by
 constructor
 intro pins s σ H Q I hw
 refine wpAny_isTrue_Compare1 (thn (h pins s σ H _ I hw) fun v s1 h1 => thn h1 fun u s2 h2 => thn h2 fun c s3 ⟨x, H1, I1, r1, q1⟩ => ?_) h1
 obtain ⟨d, rfl, q⟩ := q1
 cases r1
 exact wpAny_truthy_bool ⟨H1, I1, q⟩
theorem pt_val {e : Expr} {t : TE} (h : PE X e t) (he : ∀ whole, isTrue e X.env whole = (do let v ← whole; standAt e.pos; holding [v] (truthy v)) := by intro _; rfl) : PT X e (tB t) := by
 constructor
 intro pins s σ H Q I hw
 refine isTrue_plain (thn (h pins s σ H _ I hw) fun v s1 ⟨x, H1, I1, r1, q1⟩ => ?_) (he _)
 obtain ⟨d, rfl, q⟩ := q1
 cases r1
 exact wpAny_truthy_bool ⟨H1, I1, q⟩
variable {tA tB' : TT} {rest : List Expr}
noncomputable def tAnd (t u : TT) : TT := fun σ H Q => t σ H fun c H1 => if c = true then u σ H1 Q else Q false H1
noncomputable def tOr (t u : TT) : TT := fun σ H Q => t σ H fun c H1 => if c = true then Q true H1 else u σ H1 Q
noncomputable def tNot (t : TT) : TT := fun σ H Q => t σ H fun c H1 => Q (!c) H1
theorem pw_and1 (ha : PT X a tA) : PW X (.BoolOp .And [a] pos) tA := by
 constructor
 intro wh pins s σ H Q I h
 refine isTrue_and (thn (ha pins s σ H Q I h) fun c s1 e => ?_)
 cases c with
 | true => exact isTrue_and_nil e
 | false => exact e
theorem pw_or1 (ha : PT X a tA) : PW X (.BoolOp .Or [a] pos) tA := by
 constructor
 intro wh pins s σ H Q I h
 refine isTrue_or (thn (ha pins s σ H Q I h) fun c s1 e => ?_)
 cases c with
 | false => exact isTrue_or_nil e
 | true => exact e
theorem pw_and (ha : PT X a tA) (hb : PW X (.BoolOp .And (b :: rest) pos) tB') : PW X (.BoolOp .And (a :: b :: rest) pos) (tAnd tA tB') := by
 constructor
 intro wh pins s σ H Q I h
 refine isTrue_and (thn (ha pins s σ H _ I h) fun c s1 ⟨H1, I1, q1⟩ => ?_)
 cases c with
 | true => exact hb wh pins s1 σ H1 Q I1 q1
 | false => exact ⟨H1, I1, q1⟩
theorem pw_or (ha : PT X a tA) (hb : PW X (.BoolOp .Or (b :: rest) pos) tB') : PW X (.BoolOp .Or (a :: b :: rest) pos) (tOr tA tB') := by
 constructor
 intro wh pins s σ H Q I h
 refine isTrue_or (thn (ha pins s σ H _ I h) fun c s1 ⟨H1, I1, q1⟩ => ?_)
 cases c with
 | true => exact ⟨H1, I1, q1⟩
 | false => exact hb wh pins s1 σ H1 Q I1 q1
theorem pt_not (ha : PT X a tA) : PT X (.UnaryOp .Not a pos) (tNot tA) := by
 constructor
 intro pins s σ H Q I h
 exact isTrue_not (ha pins s σ H (fun c H1 => Q (!c) H1) I h)
noncomputable def tAndV (ta tb : TE) : TE := fun σ H Q => ta σ H fun x H1 => ∃ c, x = .bl c ∧ if c = true then tb σ H1 Q else Q (.bl false) H1
noncomputable def tOrV (ta tb : TE) : TE := fun σ H Q => ta σ H fun x H1 => ∃ c, x = .bl c ∧ if c = true then Q (.bl true) H1 else tb σ H1 Q
noncomputable def tNotV (ta : TE) : TE := fun σ H Q => ta σ H fun x H1 => ∃ c, x = .bl c ∧ Q (.bl (!c)) H1
theorem pe_one {op} {t : TE} (h : PE X a t) : PE X (.BoolOp op [a] pos) t := .mk fun pins s σ H Q I hw => BoolOp_one (h pins s σ H Q I hw)
theorem pe_and (ha : PE X a ta) (hb : PE X (.BoolOp .And (b :: rest) pos) tb) : PE X (.BoolOp .And (a :: b :: rest) pos) (tAndV ta tb) := by
 constructor
 intro pins s σ H Q I h
 refine BoolOp_and (thn (ha pins s σ H _ I h) fun v s1 ⟨x, H1, I1, r1, q1⟩ => ?_)
 obtain ⟨c, rfl, q1⟩ := q1
 cases r1
 refine wpAny_truthy_bool ?_
 cases c with
 | true => exact hb pins s1 σ H1 Q I1 q1
 | false => exact ⟨.bl false, H1, I1, rfl, q1⟩
theorem pe_or (ha : PE X a ta) (hb : PE X (.BoolOp .Or (b :: rest) pos) tb) : PE X (.BoolOp .Or (a :: b :: rest) pos) (tOrV ta tb) := by
 constructor
 intro pins s σ H Q I h
 refine BoolOp_or (thn (ha pins s σ H _ I h) fun v s1 ⟨x, H1, I1, r1, q1⟩ => ?_)
 obtain ⟨c, rfl, q1⟩ := q1
 cases r1
 refine wpAny_truthy_bool ?_
 cases c with
 | false => exact hb pins s1 σ H1 Q I1 q1
 | true => exact ⟨.bl true, H1, I1, rfl, q1⟩
theorem pe_not (ha : PE X a ta) : PE X (.UnaryOp .Not a pos) (tNotV ta) := by
 constructor
 intro pins s σ H Q I h
 refine UnaryOp_ (thn (ha pins s σ H _ I h) fun v s1 ⟨x, H1, I1, r1, q1⟩ => ?_)
 obtain ⟨c, rfl, q1⟩ := q1
 cases r1
 exact not_of (wpAny_truthy_bool ⟨.bl (!c), H1, I1, rfl, q1⟩)
noncomputable def tIf (t : TT) (ta tb : TE) : TE := fun σ H Q => t σ H fun c H1 => if c = true then ta σ H1 Q else tb σ H1 Q
theorem pe_ifExp {c : Expr} (hc : PT X c tA) (ha : PE X a ta) (hb : PE X b tb) : PE X (.IfExp c a b pos) (tIf tA ta tb) := by
 constructor
 intro pins s σ H Q I h
 refine wpAny_IfExp (thn (hc pins s σ H _ I h) fun d s1 ⟨H1, I1, q1⟩ => ?_)
 cases d with
 | true => exact ha pins s1 σ H1 Q I1 q1
 | false => exact hb pins s1 σ H1 Q I1 q1
end
end L2
namespace L2
open PySem PySem.Spec PyProof.Rows
noncomputable def SqL (K : PySem.W.Frag) (H : Hp) (a : Addr) (xs : List V) : Prop :=
 Rd H a (.lst xs) ∨
  ∃ (o : Obj) (its : Array Value) (n : Nat), K.lookup a = some o ∧ o.cls = .type "list" ∧ o.dict = none ∧ o.data = .seq its n ∧ its.size ≤ sizeLine ∧ Vals xs its.toList
noncomputable def SqT (K : PySem.W.Frag) (H : Hp) (a : Addr) (xs : List V) : Prop :=
 Rd H a (.tup xs) ∨
  ∃ (o : Obj) (its : Array Value) (n : Nat), K.lookup a = some o ∧ o.cls = .type "tuple" ∧ o.data = .seq its n ∧ its.size ≤ sizeLine ∧ Vals xs its.toList
noncomputable def absV : Value → Option V
 | .none => some .non
 | .bool b => some (.bl b)
 | .int i _ => some (.int i)
 | .str x _ => some (.str x)
 | .bytes b _ => some (.byt b)
 | .float b _ => some (.flt b)
 | .ref a => some (.ref a)
 | .type n => some (.ty n)
 | _ => none
theorem RelV.abs {x : V} {u : Value} (r : RelV x u) : absV u = some x := by
 cases x with
 | non => cases r; rfl
 | bl _ => cases r; rfl
 | int _ => obtain ⟨t, rfl⟩ := r; rfl
 | str _ => obtain ⟨t, rfl⟩ := r; rfl
 | byt _ => obtain ⟨t, rfl⟩ := r; rfl
 | flt _ => obtain ⟨t, rfl⟩ := r; rfl
 | ref _ => cases r; rfl
 | ty _ => cases r; rfl
theorem RelV.inj {x y : V} {u : Value} (r : RelV x u) (q : RelV y u) : x = y := Option.some.inj (r.abs.symm.trans q.abs)
theorem Vals.inj : ∀ {xs ys : List V} {us : List Value}, Vals xs us → Vals ys us → xs = ys
 | _, _, _, .nil, .nil => rfl
 | _, _, _, .cons r t, .cons r' t' => by rw [r.inj r', Vals.inj t t']
section
variable {X : Cx} {pins : List (Addr × Obj)} {σ : St} {H : Hp} {s : Shared} {a : Addr} {xs ys : List V}
theorem SqL.of {K : PySem.W.Frag} (h : H a = some (.lst xs)) : SqL K H a xs := .inl (.inl h)
theorem SqT.of {K : PySem.W.Frag} (h : H a = some (.tup xs)) : SqT K H a xs := .inl (.inl h)
theorem Inv.list (I : Inv X pins σ H s) (h : SqL X.K H a xs) : ∃ its : List Value, Vals xs its ∧ PlainL s.heap a its.toArray ∧ xs.length ≤ sizeLine := by
 rcases h with h | ⟨o, its, n, hk, hc, hd, hs, hz, r⟩
 ·obtain ⟨z, its, n, r, e⟩ := h.ok I.hok
  exact ⟨its, r, ⟨_, n, e, rfl, rfl, rfl⟩, z⟩
 ·refine ⟨its.toList, r, ⟨o, n, I.kIn a o hk, hc, hd, by simpa using hs⟩, ?_⟩
  have e := r.length
  simp only [Array.length_toList] at e
  omega
theorem Inv.tuple (I : Inv X pins σ H s) (h : SqT X.K H a xs) : ∃ its : List Value, Vals xs its ∧ IsTup s.heap a its.toArray ∧ xs.length ≤ sizeLine := by
 rcases h with h | ⟨o, its, n, hk, hc, hs, hz, r⟩
 ·obtain ⟨z, its, r, p⟩ := h.ok I.hok
  exact ⟨its, r, p, z⟩
 ·refine ⟨its.toList, r, ⟨o, I.kIn a o hk, hc, n, by simpa using hs⟩, ?_⟩
  have e := r.length
  simp only [Array.length_toList] at e
  omega
theorem Inv.list_inj (I : Inv X pins σ H s) (h : SqL X.K H a xs) (h' : SqL X.K H a ys) : xs = ys := by
 obtain ⟨its, r, ⟨o, n, e, _, _, d⟩, _⟩ := I.list h
 obtain ⟨its', r', ⟨o', n', e', _, _, d'⟩, _⟩ := I.list h'
 rw [e] at e'; cases e'
 rw [d] at d'
 injection d' with d1 _
 have : its = its' := by simpa using congrArg Array.toList d1
 subst this
 exact r.inj r'
theorem Inv.tuple_inj (I : Inv X pins σ H s) (h : SqT X.K H a xs) (h' : SqT X.K H a ys) : xs = ys := by
 obtain ⟨its, r, ⟨o, e, _, n, d⟩, _⟩ := I.tuple h
 obtain ⟨its', r', ⟨o', e', _, n', d'⟩, _⟩ := I.tuple h'
 rw [e] at e'; cases e'
 rw [d] at d'
 injection d' with d1 _
 have : its = its' := by simpa using congrArg Array.toList d1
 subst this
 exact r.inj r'
end
noncomputable abbrev Cx.wish (X : Cx) (E : Value → Shared → Prop) : Cx := { X with xe := E }
noncomputable abbrev Cx.nox (X : Cx) : Cx := X.wish fun _ _ => False
theorem Cx.Ok.wish {X : Cx} (ok : X.Ok) (E : Value → Shared → Prop) : (X.wish E).Ok :=
 ⟨ok.mod, ok.kind, ok.glob, ok.blt, ok.above, ok.inj, ok.has, ok.cab, ok.hd, ok.frames, ok.stk, ok.exf, ok.bs, ok.bsz, ok.noex, ok.exfs, ok.funs, ok.frf, ok.hnd⟩
theorem Cx.Ok.unwish {X : Cx} {E : Value → Shared → Prop} (ok : (X.wish E).Ok) : X.Ok :=
 ⟨ok.mod, ok.kind, ok.glob, ok.blt, ok.above, ok.inj, ok.has, ok.cab, ok.hd, ok.frames, ok.stk, ok.exf, ok.bs, ok.bsz, ok.noex, ok.exfs, ok.funs, ok.frf, ok.hnd⟩
section
variable {X : Cx} {pins : List (Addr × Obj)} {σ : St} {H : Hp} {s : Shared} {E : Value → Shared → Prop}
theorem Inv.wish (I : Inv X pins σ H s) (E : Value → Shared → Prop) : Inv (X.wish E) pins σ H s := ⟨I.ok.wish E, I.os, I.bare, I.base, I.loc, I.cell, I.free, I.freeC, I.pin, I.hok, I.len, I.hxs⟩
theorem Inv.unwish (I : Inv (X.wish E) pins σ H s) : Inv X pins σ H s := ⟨I.ok.unwish, I.os, I.bare, I.base, I.loc, I.cell, I.free, I.freeC, I.pin, I.hok, I.len, I.hxs⟩
theorem SP.unwish {D : Ends} {f : Flow} {s' : Shared} (h : SP (X.wish E) pins D f s') : SP X pins D f s' := by
 cases f with
 | next => obtain ⟨σ', H', I, q⟩ := h; exact ⟨σ', H', I.unwish, q⟩
 | brk => obtain ⟨σ', H', I, q⟩ := h; exact ⟨σ', H', I.unwish, q⟩
 | cont => obtain ⟨σ', H', I, q⟩ := h; exact ⟨σ', H', I.unwish, q⟩
 | ret u => obtain ⟨v, σ', H', I, r, q⟩ := h; exact ⟨v, σ', H', I.unwish, r, q⟩
end
section
variable {X : Cx} {st : Stmt} {rest : List Stmt} {t u : TS} {e : Expr} {te : TE} {pos : Pos}
noncomputable def tNext : TS := fun D σ H => D.nx σ H
noncomputable def tSeq (t u : TS) : TS := fun D σ H => t { D with nx := u D } σ H
theorem pss_nil : PSs X [] tNext := .mk fun _ _ σ H _ I h => wpAny_execs_nil ⟨σ, H, I, h⟩
theorem pss_cons (h1 : PS X st t) (h2 : PSs X rest u) : PSs X (st :: rest) (tSeq t u) := by
 constructor
 intro pins s σ H D I h
 refine wpAny_execs_cons (thn (h1 pins s σ H { D with nx := u D } I h) fun f s1 q => ?_)
 cases f with
 | next =>
  obtain ⟨σ', H', I', q⟩ := q
  exact h2 pins s1 σ' H' D I' q
 | ret v => exact q
 | brk => exact q
 | cont => exact q
theorem pss_one (h1 : PS X st t) : PSs X [st] t := by
 constructor
 intro pins s σ H D I h
 refine wpAny_execs_cons (thn (h1 pins s σ H D I h) fun f s1 q => ?_)
 cases f with
 | next => exact wpAny_execs_nil q
 | ret v => exact q
 | brk => exact q
 | cont => exact q
noncomputable def tBreak : TS := fun D σ H => D.bk σ H
noncomputable def tCont : TS := fun D σ H => D.ct σ H
theorem Inv.quiet {pins : List (Addr × Obj)} {σ : St} {H : Hp} {s : Shared} (I : Inv X pins σ H s) : interactive X.env = false := by simp [interactive, I.ok.kind]
noncomputable def tDrop (te : TE) : TS := fun D σ H => te σ H fun _ H1 => D.nx σ H1
theorem ps_expr (he : PE X e te) (hs : swapsWith e none pos.line X.env = pure false := by rfl) : PS X (.Expr e pos) (tDrop te) := by
 constructor
 intro pins s σ H D I h
 exact wpAny_Expr_any (thn (he pins s σ H _ I h) fun v s1 ⟨x, H1, I1, r1, q1⟩ => ⟨σ, H1, I1, q1⟩) I.quiet hs
noncomputable def tRet (te : TE) : TS := fun D σ H => te σ H D.rt
theorem ps_ret (he : PE X e te) : PS X (.Return (some e) pos) (tRet te) := by
 constructor
 intro pins s σ H D I h
 exact wpAny_Return_some (thn (he pins s σ H _ I h) fun v s1 ⟨x, H1, I1, r1, q1⟩ => ⟨x, σ, H1, I1, r1, q1⟩)
noncomputable def tRetN : TS := fun D _ H => D.rt .non H
theorem ps_retN : PS X (.Return none pos) tRetN := .mk fun _ _ σ H _ I h => wpAny_Return_none ⟨.non, σ, H, I, rfl, h⟩
noncomputable def tIfS (c : TT) (t u : TS) : TS := fun D σ H => c σ H fun b H1 => if b = true then t D σ H1 else u D σ H1
theorem ps_if {c : Expr} {a b : List Stmt} {tc : TT} (hc : PT X c tc) (ha : PSs X a t) (hb : PSs X b u) : PS X (.If c a b pos) (tIfS tc t u) := by
 constructor
 intro pins s σ H D I h
 refine wpAny_If (thn (hc pins s σ H _ I h) fun d s1 ⟨H1, I1, q1⟩ => ?_)
 cases d with
 | true => exact ha pins s1 σ H1 D I1 q1
 | false => exact hb pins s1 σ H1 D I1 q1
noncomputable def tNever : TS := fun _ _ _ => False
end
noncomputable abbrev TG := V → St → Hp → (St → Hp → Prop) → Prop
noncomputable abbrev TGs := List V → St → Hp → (St → Hp → Prop) → Prop
structure PG (X : Cx) (target : Expr) (t : TG) : Prop where
 run : ∀ (pins : List (Addr × Obj)) (s : Shared) (σ : St) (H : Hp) (v : V) (u : Value) (Q : St → Hp → Prop), Inv X pins σ H s → RelV v u → t v σ H Q →
  wpAny (model X.prog X.w) X.A (assign target X.env u) (fun _ s' => ∃ σ' H', Inv X pins σ' H' s' ∧ Q σ' H') X.xe s
instance {X : Cx} {target : Expr} {t : TG} : CoeFun (PG X target t) (fun _ => ∀ (pins : List (Addr × Obj)) (s : Shared) (σ : St) (H : Hp) (v : V) (u : Value) (Q : St → Hp → Prop), Inv X pins σ H s → RelV v u → t v σ H Q →
  wpAny (model X.prog X.w) X.A (assign target X.env u) (fun _ s' => ∃ σ' H', Inv X pins σ' H' s' ∧ Q σ' H') X.xe s) := ⟨fun h => h.run⟩
structure PGs (X : Cx) (ts : List Expr) (t : TGs) : Prop where
 run : ∀ (pins : List (Addr × Obj)) (s : Shared) (σ : St) (H : Hp) (vs : List V) (us : List Value) (Q : St → Hp → Prop), Inv X pins σ H s → Vals vs us → t vs σ H Q →
  wpAny (model X.prog X.w) X.A (assignInOrder ((assignEach ts X.env).map (·.2)) us) (fun _ s' => ∃ σ' H', Inv X pins σ' H' s' ∧ Q σ' H') X.xe s
instance {X : Cx} {ts : List Expr} {t : TGs} : CoeFun (PGs X ts t) (fun _ => ∀ (pins : List (Addr × Obj)) (s : Shared) (σ : St) (H : Hp) (vs : List V) (us : List Value) (Q : St → Hp → Prop), Inv X pins σ H s → Vals vs us → t vs σ H Q →
  wpAny (model X.prog X.w) X.A (assignInOrder ((assignEach ts X.env).map (·.2)) us) (fun _ s' => ∃ σ' H', Inv X pins σ' H' s' ∧ Q σ' H') X.xe s) := ⟨fun h => h.run⟩
noncomputable abbrev TSet := V → V → V → Hp → (Hp → Prop) → Prop
noncomputable def PSet (X : Cx) (t : TSet) : Prop :=
 ∀ (pins : List (Addr × Obj)) (s : Shared) (σ : St) (H : Hp) (o i v : V) (ov iv u : Value) (Q : Hp → Prop), Inv X pins σ H s → RelV o ov → RelV i iv → RelV v u → t o i v H Q →
  wpAny (model X.prog X.w) X.A (setItem ov iv u) (fun _ s' => ∃ H', Inv X pins σ H' s' ∧ Q H') X.xe s
noncomputable abbrev TIp := V → V → Hp → VK → Prop
noncomputable def PIp (X : Cx) (op : Operator) (t : TIp) : Prop :=
 ∀ (pins : List (Addr × Obj)) (s : Shared) (σ : St) (H : Hp) (x y : V) (v u : Value) (Q : VK), Inv X pins σ H s → RelV x v → RelV y u → t x y H Q →
  wpAny (model X.prog X.w) X.A (inplaceOp op v u) (EP X pins σ Q) X.xe s
section
variable {X : Cx} {pos : Pos}
noncomputable abbrev gName (i : Nat) : TG := fun v σ H Q => Q (σ.set i (some v)) H
theorem pg_name {i : Nat} {x : Str} (hN : X.N.Nodup) (hi : X.N[i]? = some x) (hx : Loc X.env.scope x) (hf : X.fn x = true ∨ X.env.scope.names.lookup x = some .local := by first | exact .inl rfl | exact .inr rfl | assumption) : PG X (.Name x pos) (gName i) := by
 constructor
 intro pins s σ H v u Q I r h
 exact wpAny_assign_Name (store_ok I hN hi hx r (fun s' I' => ⟨_, H, I', h⟩) hf)
noncomputable def gNil : TGs := fun vs σ H Q => vs = [] ∧ Q σ H
noncomputable def gCons (t : TG) (u : TGs) : TGs := fun vs σ H Q => ∃ v r, vs = v :: r ∧ t v σ H fun σ' H' => u r σ' H' Q
noncomputable def gTup (K : PySem.W.Frag) (n : Nat) (t : TGs) : TG := fun v σ H Q => ∃ a xs, v = .ref a ∧ SqT K H a xs ∧ xs.length = n ∧ t xs σ H Q
noncomputable def gSub (to ti : TE) (t : TSet) : TG := fun v σ H Q => to σ H fun o H1 => ti σ H1 fun i H2 => t o i v H2 fun H3 => Q σ H3
theorem pg_sub {o i : Expr} {to ti : TE} {t : TSet} (ho : PE X o to) (hi : PE X i ti) (hs : PSet X t)
  (ha : ∀ v, assign (.Subscript o i pos) X.env v = (do
   let ov ← holding [v] (eval o X.env)
   let iv ← holding [v, ov] (eval i X.env)
   standAt pos
   holding [v, ov, iv] (setItem ov iv v)
   release [v, ov, iv] []) := by intro _; rfl) : PG X (.Subscript o i pos) (gSub to ti t) := by
 constructor
 intro pins s σ H v u Q I r h
 rw [ha]
 refine wpAny_bind (wpAny_holding (thn (ho pins s σ H _ I h) fun ov s1 ⟨x, H1, I1, r1, q1⟩ => ?_))
 refine wpAny_bind (wpAny_holding (thn (hi pins s1 σ H1 _ I1 q1) fun iv s2 ⟨y, H2, I2, r2, q2⟩ => ?_))
 refine wpAny_bind (wpAny_standAt (wpAny_bind (wpAny_holding (thn (hs pins s2 σ H2 x y v ov iv u _ I2 r1 r2 r q2) fun _ s3 ⟨H3, I3, q3⟩ => ?_))))
 exact wpAny_release ⟨σ, H3, I3, q3⟩
noncomputable def tAsg (te : TE) (g : TG) : TS := fun D σ H => te σ H fun x H1 => g x σ H1 D.nx
theorem ps_asg {tg e : Expr} {te : TE} {g : TG} (he : PE X e te) (hg : PG X tg g) (hs : swapsWithSole [tg] e pos.line X.env = pure false := by rfl) (hw : swappedStores [tg] e X.env = pure none := by rfl)
  (h1 : (assignEach [tg] X.env).map (·.2) = [assign tg X.env] := by rfl) : PS X (.Assign [tg] e pos) (tAsg te g) := by
 constructor
 intro pins s σ H D I h
 refine wpAny_Assign_stores (thn (he pins s σ H _ I h) fun v s1 ⟨x, H1, I1, r1, q1⟩ => ?_) hs hw
 rw [h1]
 exact thn (hg pins s1 σ H1 x v _ I1 r1 q1) fun _ s2 q => q
theorem ps_set {i : Nat} {x : Str} {e : Expr} {te : TE} {pos' : Pos} (hN : X.N.Nodup) (hi : X.N[i]? = some x) (hx : Loc X.env.scope x) (he : PE X e te) (hs : swapsWith e (some (.Name x pos')) pos.line X.env = pure false := by rfl) (hf : X.fn x = true ∨ X.env.scope.names.lookup x = some .local := by first | exact .inl rfl | exact .inr rfl | assumption) :
  PS X (.Assign [.Name x pos'] e pos) (tAsg te (gName i)) := by
 constructor
 intro pins s σ H D I h
 refine wpAny_Assign_Name (thn (he pins s σ H _ I h) fun v s1 ⟨y, H1, I1, r1, q1⟩ => ?_) hs
 exact store_ok I1 hN hi hx r1 (fun s2 I2 => ⟨_, H1, I2, q1⟩) hf
noncomputable def tPar (i j : Nat) (ta : TA) : TS := fun D σ H => ta σ H fun vs H1 => ∃ v w, vs = [v, w] ∧ D.nx ((σ.set i (some v)).set j (some w)) H1
noncomputable def tAug (i : Nat) (te : TE) (ti : TIp) : TS := fun D σ H => ∃ x, σ[i]? = some (some x) ∧ te σ H fun y H1 => ti x y H1 fun z H2 => D.nx (σ.set i (some z)) H2
noncomputable def tAugS (to ti te : TE) (tget : V → V → Hp → VK → Prop) (tip : TIp) (tset : TSet) : TS := fun D σ H => to σ H fun o H1 => ti σ H1 fun i H2 => tget o i H2 fun x H3 => te σ H3 fun y H4 => tip x y H4 fun z H5 => tset o i z H5 fun H6 => D.nx σ H6
noncomputable def PGet (X : Cx) (t : V → V → Hp → VK → Prop) : Prop :=
 ∀ (pins : List (Addr × Obj)) (s : Shared) (σ : St) (H : Hp) (o i : V) (ov iv : Value) (Q : VK), Inv X pins σ H s → RelV o ov → RelV i iv → t o i H Q →
  wpAny (model X.prog X.w) X.A (getItem ov iv) (EP X pins σ Q) X.xe s
noncomputable def ipI (f : Int → Int → Int) : TIp := fun x y H Q => ∃ i j, x = .int i ∧ y = .int j ∧ Q (.int (f i j)) H
end
section
variable {X : Cx} {pos : Pos}
noncomputable def tWhile (c : TT) (tb : TS) : TS := fun D σ H => ∃ W : Nat → St → Hp → Prop, (∃ m, W m σ H) ∧ ∀ m σ H, W m σ H →
 c σ H fun b H1 => if b = true then ∃ N : St → Hp → Prop, (∀ σ' H', N σ' H' → ∃ m', m' < m ∧ W m' σ' H') ∧ tb { D with nx := N, ct := N, bk := D.nx } σ H1 else D.nx σ H1
theorem ps_while {c : Expr} {body : List Stmt} {tc : TT} {tb : TS} (hp : PassesOwn (model X.prog X.w) X.A X.env X.xe) (hc : PT X c tc) (hb : PSs X body tb) : PS X (.While c body [] pos) (tWhile tc tb) := by
 constructor
 intro pins s σ H D I h
 obtain ⟨W, ⟨m0, w0⟩, turn⟩ := h
 refine wpAny_While (codeAny_whileLoop (fun n s' => ∃ σ' H', Inv X pins σ' H' s' ∧ W n σ' H') ?_ m0 ⟨σ, H, I, w0⟩)
 rintro n s1 ⟨σ1, H1, I1, w1⟩
 refine wpAny_passesOwn hp (thn (hc pins s1 σ1 H1 _ I1 (turn n σ1 H1 w1)) fun b s2 ⟨H2, I2, q2⟩ => ?_)
 cases b with
 | true =>
  obtain ⟨N, hN, q2⟩ := q2
  rw [if_pos rfl]
  refine wpAny_passesOwn hp (thn (hb pins s2 σ1 H2 _ I2 q2) fun f s3 q3 => ?_)
  cases f with
  | next =>
   obtain ⟨σ3, H3, I3, n3⟩ := q3
   obtain ⟨m', hm, w3⟩ := hN σ3 H3 n3
   exact ⟨m', hm, σ3, H3, I3, w3⟩
  | cont =>
   obtain ⟨σ3, H3, I3, n3⟩ := q3
   obtain ⟨m', hm, w3⟩ := hN σ3 H3 n3
   exact ⟨m', hm, σ3, H3, I3, w3⟩
  | brk => exact q3
  | ret v => exact q3
 | false =>
  rw [if_neg Bool.false_ne_true]
  exact wpAny_execs_nil ⟨σ1, H2, I2, q2⟩
end
structure It where
 go : Nat → Hp → Prop
 yld : Nat → Hp → V → Hp → Prop
 stop : Nat → Hp → Prop
noncomputable def FpOk (X : Cx) (pins : List (Addr × Obj)) (H : Hp) (b : Addr) : Prop :=
 H b = none ∧ b ≠ X.env.locals ∧ b ∉ X.fs ∧ (b ∈ X.ex ∨ X.s₀.heap.objs.size ≤ b) ∧ (∀ x c, X.env.cells.lookup x = some c → c ≠ b) ∧ ∀ p ∈ X.pn ++ pins, p.1 ≠ b
theorem Inv.fpOk {X : Cx} {pins : List (Addr × Obj)} {σ : St} {H H' : Hp} {s : Shared} {b : Addr} (I : Inv X pins σ H s) (hb : s.heap.objs.size ≤ b) (hn : H' b = none) : FpOk X pins H' b := by
 refine ⟨hn, Nat.ne_of_gt (Nat.lt_of_lt_of_le I.lt hb), I.nofs hb, .inr (Nat.le_trans I.sz hb), fun x c e z => ?_, fun p hp z => ?_⟩
 ·obtain ⟨v, q⟩ := I.cell x c e
  exact absurd (Nat.lt_of_lt_of_le q.lt (by rw [z]; exact hb)) (Nat.lt_irrefl _)
 ·exact absurd (Nat.lt_of_lt_of_le (Heap.lt_size (I.pin p hp).1) (by rw [z]; exact hb)) (Nat.lt_irrefl _)
structure Turn (P : Program) (w : World) (K : PySem.W.Frag) (hd : Option Value) (tg : Expr) (J : It) (fp : List Addr) (it : Addr) (tn : Nat → Heap → Prop) : Prop where
 mem : it ∈ fp
 obj : ∀ i h, tn i h → ∀ b ∈ fp, ∃ o, h.get? b = some o ∧ ∀ v, o.data ≠ .cell v
 keep : ∀ i h h', tn i h → (∀ b ∈ fp, ∀ o, h.get? b = some o → h'.get? b = some o) → tn i h'
 item : ∀ (X : Cx), X.prog = P → X.w = w → X.K = K → X.A.handled = hd → ∀ (i : Nat) (pins : List (Addr × Obj)) (s : Shared) (σ : St) (H : Hp) (E : Value → Shared → Prop), Inv X pins σ H s → (∀ b ∈ fp, FpOk X pins H b) → tn i s.heap → J.go i H →
  wpAny (model P w) X.A (pyNext (.ref it)) (fun r s1 => ∃ u, r = some u ∧
   wpAny (model P w) X.A (letOwnedTupleGo tg (.ref it) u) (fun _ s2 => ∃ x H', Inv X pins σ H' s2 ∧ RelV x u ∧ J.yld i H x H' ∧ tn (i + 1) s2.heap ∧ ∀ b ∈ fp, H' b = none) E s1) E s
 done : ∀ (X : Cx), X.prog = P → X.w = w → X.K = K → X.A.handled = hd → ∀ (i : Nat) (pins : List (Addr × Obj)) (s : Shared) (σ : St) (H : Hp) (E : Value → Shared → Prop), Inv X pins σ H s → (∀ b ∈ fp, FpOk X pins H b) → tn i s.heap → J.stop i H →
  wpAny (model P w) X.A (pyNext (.ref it)) (fun r s1 => r = none ∧ Inv X pins σ H s1) E s
 self : ∀ (A : Around) (i : Nat) (s : Shared) (Q : Value → Shared → Prop) (E : Value → Shared → Prop), tn i s.heap → Q (.ref it) s → wpAny (model P w) A (pyIter (.ref it)) Q E s
noncomputable abbrev TI := St → Hp → (It → Hp → Prop) → Prop
noncomputable def PIE (X : Cx) (pins : List (Addr × Obj)) (σ : St) (tg : Expr) (R : It → Hp → Prop) (itv : Value) (s2 : Shared) : Prop :=
 ∃ (it : Addr) (fp : List Addr) (tn : Nat → Heap → Prop) (J : It) (H' : Hp), itv = .ref it ∧ Inv X pins σ H' s2 ∧ Turn X.prog X.w X.K X.A.handled tg J fp it tn ∧ tn 0 s2.heap ∧ (∀ b ∈ fp, FpOk X pins H' b) ∧ R J H'
structure PI (X : Cx) (tg iter : Expr) (wi : TI) : Prop where
 run : ∀ (pins : List (Addr × Obj)) (s : Shared) (σ : St) (H : Hp) (R : It → Hp → Prop), Inv X pins σ H s → wi σ H R →
  wpAny (model X.prog X.w) X.A (eval iter X.env) (fun v s1 => wpAny (model X.prog X.w) X.A (pyIter v) (PIE X pins σ tg R) X.xe s1) X.xe s
instance {X : Cx} {tg iter : Expr} {wi : TI} : CoeFun (PI X tg iter wi) (fun _ => ∀ (pins : List (Addr × Obj)) (s : Shared) (σ : St) (H : Hp) (R : It → Hp → Prop), Inv X pins σ H s → wi σ H R →
  wpAny (model X.prog X.w) X.A (eval iter X.env) (fun v s1 => wpAny (model X.prog X.w) X.A (pyIter v) (PIE X pins σ tg R) X.xe s1) X.xe s) := ⟨fun h => h.run⟩
theorem go_of {M : Model} {A : Around} {E : Value → Shared → Prop} {s : Shared} {tg : Expr} {it : Addr} {u : Value} {o : Obj} {n : String} {vs : Array Value} {Q : Unit → Shared → Prop} (ho : s.heap.get? it = some o) (hc : o.cls = .type n) (hd : o.data = .fields vs)
    (hn : ["enumerate", "zip", "dict_itemiterator", "dict_reverseitemiterator", "odict_iterator", "itertools.zip_longest", "itertools.pairwise"].contains n = false) (hQ : Q () s) : wpAny M A (letOwnedTupleGo tg (.ref it) u) Q E s := by
  unfold letOwnedTupleGo
  cases tg <;> first
    | exact wpAny_pure hQ
    | (cases u <;> first
        | exact wpAny_pure hQ
        | (refine wpAny_bind (wpAny_load ho ?_)
           rw [hc, hd]
           show wpAny M A (if (["enumerate", "zip", "dict_itemiterator", "dict_reverseitemiterator", "odict_iterator", "itertools.zip_longest", "itertools.pairwise"].contains n && vs[0]? == some (rawInt _)) = true then _ else _) Q E s
           rw [if_neg (by intro h; rw [hn, Bool.false_and] at h; cases h)]
           exact wpAny_pure hQ))
noncomputable def Itl (K : PySem.W.Frag) (a : Addr) : It :=
 ⟨fun i H => ∃ xs x, SqL K H a xs ∧ xs[i]? = some x, fun i H x H' => H' = H ∧ ∀ xs, SqL K H a xs → xs[i]? = some x, fun i H => ∃ xs, SqL K H a xs ∧ xs.length ≤ i⟩
noncomputable def Itt (K : PySem.W.Frag) (a : Addr) : It :=
 ⟨fun i H => ∃ xs x, SqT K H a xs ∧ xs[i]? = some x, fun i H x H' => H' = H ∧ ∀ xs, SqT K H a xs → xs[i]? = some x, fun i H => ∃ xs, SqT K H a xs ∧ xs.length ≤ i⟩
noncomputable def Itr (lo : Int) (n : Nat) : It := ⟨fun i _ => i < n, fun i H x H' => H' = H ∧ x = .int (lo + i), fun i _ => n ≤ i⟩
theorem turn_list {P : Program} {w : World} {K : PySem.W.Frag} {hd : Option Value} {tg : Expr} (a it : Addr) : Turn P w K hd tg (Itl K a) [it] it (fun i h => h.IsListIter it a i) where
 mem := by simp
 obj := fun i h st b hb => by
  have e : b = it := by simpa using hb
  subst e
  obtain ⟨o, e, c, d⟩ := st
  exact ⟨o, e, fun v z => by rw [d] at z; cases z⟩
 keep := fun i h h' st k => st.at fun o e => k it (by simp) o e
 item := by
  intro X hP hw hK hA i pins s σ H E I hf st hg
  subst hP hw hK
  obtain ⟨xs, x, hq, hx⟩ := hg
  obtain ⟨its, rv, p, hz⟩ := I.list hq
  obtain ⟨u, hu, ru⟩ := rv.get hx
  obtain ⟨f0, f1, f2, f3, f4, f5⟩ := hf it (by simp)
  refine wpAny_pyNext_list_item st p.isList (x := u) (by simpa using hu) fun h' st' sb => ?_
  have I1 : Inv X pins σ H { s with heap := h' } := I.turned (t' := s.toks) (fun b o hb e => (sb.2 b hb).trans e) f0 f1 f3 f4 f5
  obtain ⟨o, e, c, d⟩ := id st'
  exact ⟨u, rfl, go_of (s := { s with heap := h' }) e c d (by decide) ⟨x, H, I1, ru, ⟨rfl, fun ys hy => by rw [I.list_inj hy hq]; exact hx⟩, st', fun b hb => (hf b hb).1⟩⟩
 done := by
  intro X hP hw hK hA i pins s σ H E I hf st hg
  subst hP hw hK
  obtain ⟨xs, hq, hx⟩ := hg
  obtain ⟨its, rv, p, hz⟩ := I.list hq
  obtain ⟨f0, f1, f2, f3, f4, f5⟩ := hf it (by simp)
  have hl := rv.length
  exact list_end I.hdAt (I.hdNe f0) st p.isList (by simp; omega) fun h' eb => ⟨rfl, I.turned (t' := s.toks) (fun b o hb e => eb b o hb e) f0 f1 f3 f4 f5⟩
 self := fun _ _ _ _ _ st h => wpAny_pyIter_listiter st h
theorem turn_tuple {P : Program} {w : World} {K : PySem.W.Frag} {hd : Option Value} {tg : Expr} (a it : Addr) : Turn P w K hd tg (Itt K a) [it] it (fun i h => h.IsTupleIter it a i) where
 mem := by simp
 obj := fun i h st b hb => by
  have e : b = it := by simpa using hb
  subst e
  obtain ⟨o, e, c, d⟩ := st
  exact ⟨o, e, fun v z => by rw [d] at z; cases z⟩
 keep := fun i h h' st k => st.at fun o e => k it (by simp) o e
 item := by
  intro X hP hw hK hA i pins s σ H E I hf st hg
  subst hP hw hK
  obtain ⟨xs, x, hq, hx⟩ := hg
  obtain ⟨its, rv, p, hz⟩ := I.tuple hq
  obtain ⟨u, hu, ru⟩ := rv.get hx
  obtain ⟨f0, f1, f2, f3, f4, f5⟩ := hf it (by simp)
  refine wpAny_pyNext_tuple_item st (show s.heap.IsTuple a its.toArray from p) (x := u) (by simpa using hu) fun h' st' sb => ?_
  have I1 : Inv X pins σ H { s with heap := h' } := I.turned (t' := s.toks) (fun b o hb e => (sb.2 b hb).trans e) f0 f1 f3 f4 f5
  obtain ⟨o, e, c, d⟩ := id st'
  exact ⟨u, rfl, go_of (s := { s with heap := h' }) e c d (by decide) ⟨x, H, I1, ru, ⟨rfl, fun ys hy => by rw [I.tuple_inj hy hq]; exact hx⟩, st', fun b hb => (hf b hb).1⟩⟩
 done := by
  intro X hP hw hK hA i pins s σ H E I hf st hg
  subst hP hw hK
  obtain ⟨xs, hq, hx⟩ := hg
  obtain ⟨its, rv, p, hz⟩ := I.tuple hq
  obtain ⟨f0, f1, f2, f3, f4, f5⟩ := hf it (by simp)
  have hl := rv.length
  exact tuple_end I.hdAt (I.hdNe f0) st (show s.heap.IsTuple a its.toArray from p) (by simp; omega) fun h' eb => ⟨rfl, I.turned (t' := s.toks) (fun b o hb e => eb b o hb e) f0 f1 f3 f4 f5⟩
 self := fun _ _ _ _ _ st h => wpAny_pyIter_tupleiter st h
theorem turn_range {P : Program} {w : World} {K : PySem.W.Frag} {hd : Option Value} {tg : Expr} (it : Addr) (lo : Int) (n : Nat) : Turn P w K hd tg (Itr lo n) [it] it (fun i h => IsRangeIter h it (lo + (i : Nat) * 1) ((n : Int) - (i : Nat)) 1) where
 mem := by simp
 obj := fun i h st b hb => by
  have e : b = it := by simpa using hb
  subst e
  exact ⟨_, st, fun v z => by
   have z' : Data.fields _ = Data.cell v := z
   cases z'⟩
 keep := fun i h h' st k => k it (by simp) _ st
 item := by
  intro X hP hw hK hA i pins s σ H E I hf st hg
  subst hP hw hK
  obtain ⟨f0, f1, f2, f3, f4, f5⟩ := hf it (by simp)
  refine range_next (lo := lo) hg st fun v h' tk hv st' kk => ?_
  obtain ⟨t, rfl⟩ := hv
  have I1 : Inv X pins σ H { s with heap := h', toks := tk } := I.turned (fun b o hb e => kk b o hb e) f0 f1 f3 f4 f5
  refine ⟨_, rfl, go_of (s := { s with heap := h', toks := tk }) (n := "range_iterator") st' rfl rfl (by decide) ⟨.int (lo + i), H, I1, ⟨t, ?_⟩, ⟨rfl, rfl⟩, st', fun b hb => (hf b hb).1⟩⟩
  rw [Int.mul_one]
 done := by
  intro X hP hw hK hA i pins s σ H E I hf st hg
  subst hP hw hK
  obtain ⟨f0, f1, f2, f3, f4, f5⟩ := hf it (by simp)
  exact range_end I.hdAt st (by have : n ≤ i := hg; omega) fun h' eb => ⟨rfl, I.turned (t' := s.toks) (fun b o _ e => eb b o e) f0 f1 f3 f4 f5⟩
 self := fun _ _ _ _ _ st h => wpAny_pyIter_rangeiter st h
end L2
namespace L2
open PySem PySem.Spec PyProof.Rows
section
variable {X : Cx} {tg : Expr}
noncomputable def iList (K : PySem.W.Frag) (tl : TE) : TI := fun σ H R => tl σ H fun x H1 => ∃ a, x = .ref a ∧ (∃ xs, SqL K H1 a xs) ∧ R (Itl K a) H1
noncomputable def iTup (K : PySem.W.Frag) (tl : TE) : TI := fun σ H R => tl σ H fun x H1 => ∃ a, x = .ref a ∧ (∃ xs, SqT K H1 a xs) ∧ R (Itt K a) H1
theorem pi_list {l : Expr} {tl : TE} (hl : PE X l tl) : PI X tg l (iList X.K tl) := by
 constructor
 intro pins s σ H R I h
 refine thn (hl pins s σ H _ I h) fun v s1 ⟨x, H1, I1, r1, q1⟩ => ?_
 obtain ⟨a, e, ⟨xs, hq⟩, q⟩ := q1
 subst e
 cases r1
 obtain ⟨its, rv, p, hz⟩ := I1.list hq
 refine wpAny_pyIter_list p.isList ?_
 refine ⟨s1.heap.objs.size, [s1.heap.objs.size], _, _, H1, rfl, I1.kept (t' := s1.toks) fun b o e => Heap.get?_push_of_some _ e, turn_list a _, ⟨_, Heap.get?_push_size _ rfl, rfl, rfl⟩, fun b hb => ?_, q⟩
 have e : b = s1.heap.objs.size := by simpa using hb
 subst e
 exact I1.fpOk (Nat.le_refl _) (I1.hok.fresh (Nat.le_refl _))
theorem pi_tup {l : Expr} {tl : TE} (hl : PE X l tl) : PI X tg l (iTup X.K tl) := by
 constructor
 intro pins s σ H R I h
 refine thn (hl pins s σ H _ I h) fun v s1 ⟨x, H1, I1, r1, q1⟩ => ?_
 obtain ⟨a, e, ⟨xs, hq⟩, q⟩ := q1
 subst e
 cases r1
 obtain ⟨its, rv, p, hz⟩ := I1.tuple hq
 refine wpAny_pyIter_tuple (show s1.heap.IsTuple a its.toArray from p) ?_
 refine ⟨s1.heap.objs.size, [s1.heap.objs.size], _, _, H1, rfl, I1.kept (t' := s1.toks) fun b o e => Heap.get?_push_of_some _ e, turn_tuple a _, ⟨_, Heap.get?_push_size _ rfl, rfl, rfl⟩, fun b hb => ?_, q⟩
 have e : b = s1.heap.objs.size := by simpa using hb
 subst e
 exact I1.fpOk (Nat.le_refl _) (I1.hok.fresh (Nat.le_refl _))
theorem range_it {pins : List (Addr × Obj)} {σ : St} {H : Hp} {s : Shared} {R : It → Hp → Prop} {E : Value → Shared → Prop} {lo hi : Int} {t u v : Tok} {tk : Nat} (I : Inv X pins σ H s) (h1 : -(2 ^ 62) ≤ lo) (h2 : lo < 2 ^ 62) (h3 : -(2 ^ 62) ≤ hi) (h4 : hi < 2 ^ 62)
  (q : R (Itr lo (hi - lo).toNat) H) : wpAny (model X.prog X.w) X.A (pyIter (.ref s.heap.objs.size)) (PIE X pins σ tg R) E { s with heap := s.heap.push { cls := .type "range", data := .fields #[.int lo t, .int hi u, .int 1 v] }, toks := tk } := by
 refine wpAny_pyIter_range (IsRange.new ..) (small_one h1 h2 h3 h4) ?_
 have I1 : Inv X pins σ H { s with heap := s.heap.push { cls := .type "range", data := .fields #[.int lo t, .int hi u, .int 1 v] }, toks := tk } := I.kept fun b o e => Heap.get?_push_of_some _ e
 refine ⟨(s.heap.push { cls := .type "range", data := .fields #[.int lo t, .int hi u, .int 1 v] }).objs.size, [(s.heap.push { cls := .type "range", data := .fields #[.int lo t, .int hi u, .int 1 v] }).objs.size], _, _, H, rfl,
  I1.kept (t' := tk) fun b o e => Heap.get?_push_of_some _ e, turn_range _ lo (hi - lo).toNat, ?_, fun b hb => ?_, q⟩
 ·have e1 : lo + ((0 : Nat) : Int) * 1 = lo := by simp
  have e2 : (((hi - lo).toNat : Nat) : Int) - ((0 : Nat) : Int) = Builtin.Range.rangeSize lo hi 1 := by rw [rangeSize_one]; split <;> omega
  show IsRangeIter _ _ (lo + ((0 : Nat) : Int) * 1) ((((hi - lo).toNat : Nat) : Int) - ((0 : Nat) : Int)) 1
  rw [e1, e2]
  exact Heap.get?_push_size _ rfl
 ·have e : b = (s.heap.push { cls := .type "range", data := .fields #[.int lo t, .int hi u, .int 1 v] }).objs.size := by simpa using hb
  subst e
  exact I1.fpOk (Nat.le_refl _) (I1.hok.fresh (Nat.le_refl _))
noncomputable def iRng1 (ta : TA) : TI := fun σ H R => ta σ H fun vs H1 => ∃ j : Int, vs = [.int j] ∧ -(2 ^ 62) ≤ j ∧ j < 2 ^ 62 ∧ R (Itr 0 j.toNat) H1
noncomputable def iRng2 (ta : TA) : TI := fun σ H R => ta σ H fun vs H1 => ∃ i j : Int, vs = [.int i, .int j] ∧ (-(2 ^ 62) ≤ i ∧ i < 2 ^ 62 ∧ -(2 ^ 62) ≤ j ∧ j < 2 ^ 62) ∧ R (Itr i (j - i).toNat) H1
theorem pi_range1 {a : Expr} {ta : TA} {p pos : Pos} (hg : Gl X "range") (hm : X.mg "range" = none) (ha : PA X [a] ta) (hs : starEach [a] X.env = [(false, eval a X.env)] := by rfl) : PI X tg (.Call (.Name "range" p) [a] [] pos) (iRng1 ta) := by
 constructor
 intro pins s σ H R I h
 refine Call_ (ld_blt I hg hm boot_range (PyProof.Rows.callWith_type1 (thn (ha pos pins s σ H _ I h) fun us s1 ⟨vs, H1, I1, r1, q1⟩ => ?_) hs rfl))
 obtain ⟨j, e, q1, q2, q⟩ := q1
 subst e
 cases r1 with
 | cons r rr =>
  cases rr
  obtain ⟨t, rfl⟩ := r
  exact call_range_1 (range_it I1 (by omega) (by omega) q1 q2 (by simpa using q))
noncomputable def tFor (wi : TI) (g : TG) (tb : TS) : TS := fun D σ H => wi σ H fun J H1 => ∃ W : Nat → Nat → St → Hp → Prop, (∃ m, W 0 m σ H1) ∧ ∀ i m σ H, W i m σ H →
 (J.stop i H ∧ D.nx σ H) ∨ (J.go i H ∧ ∃ N : St → Hp → Prop, (∀ σ' H', N σ' H' → ∃ m', m' < m ∧ W (i + 1) m' σ' H') ∧ ∀ x H', J.yld i H x H' → g x σ H' fun σ2 H2 => tb { D with nx := N, ct := N, bk := D.nx } σ2 H2)
noncomputable def pinsAt (fp : List Addr) (h : Heap) : List (Addr × Obj) := fp.filterMap fun b => (h.get? b).map fun o => (b, o)
theorem mem_pinsAt {fp : List Addr} {h : Heap} {b : Addr} {o : Obj} (hb : b ∈ fp) (e : h.get? b = some o) : (b, o) ∈ pinsAt fp h := List.mem_filterMap.mpr ⟨b, hb, by rw [e]; rfl⟩
theorem of_pinsAt {fp : List Addr} {h : Heap} {p : Addr × Obj} (hp : p ∈ pinsAt fp h) : p.1 ∈ fp ∧ h.get? p.1 = some p.2 := by
 obtain ⟨b, hb, e⟩ := List.mem_filterMap.mp hp
 cases q : h.get? b with
 | none => rw [q] at e; cases e
 | some o =>
  rw [q] at e
  have e' : (b, o) = p := Option.some.inj e
  subst e'
  exact ⟨hb, q⟩
theorem Inv.pinned {pins : List (Addr × Obj)} {σ : St} {H : Hp} {s : Shared} {fp : List Addr} (I : Inv X pins σ H s) (hf : ∀ b ∈ fp, FpOk X pins H b) (ho : ∀ b ∈ fp, ∃ o, s.heap.get? b = some o ∧ ∀ v, o.data ≠ .cell v) : Inv X (pins ++ pinsAt fp s.heap) σ H s :=
 I.pins_of fun p hp => (List.mem_append.mp hp).elim (fun z => I.pin p (List.mem_append_right _ z)) fun z => by
  obtain ⟨hb, e⟩ := of_pinsAt z
  obtain ⟨f0, f1, f2, _⟩ := hf p.1 hb
  obtain ⟨o, e', d⟩ := ho p.1 hb
  rw [e] at e'; cases e'
  exact ⟨e, f0, f1, f2, d⟩
theorem Inv.unpinned {pins pl : List (Addr × Obj)} {σ : St} {H : Hp} {s : Shared} (I : Inv X (pins ++ pl) σ H s) : Inv X pins σ H s := I.pins_of fun p hp => I.pin p (List.mem_append_right _ (List.mem_append_left _ hp))
theorem ps_for {iter : Expr} {body : List Stmt} {wi : TI} {g : TG} {tb : TS} {pos : Pos} (hp : PassesOwn (model X.prog X.w) X.A X.env X.xe) (hi : PI X tg iter wi) (hg : PG X tg g) (hb : PSs X body tb)
  (hs : ∀ x, foldedSetIterable iter X.env x = pure x := by intro _; rfl) : PS X (.For tg iter body [] pos) (tFor wi g tb) := by
 constructor
 intro pins s σ H D I h
 refine wpAny_For (thn (hi pins s σ H _ I h) fun v s1 h1 => thn h1 fun itv s2 h2 => ?_) hs
 obtain ⟨it, fp, tn, J, H2, e, I2, T, st2, f2, W, ⟨m0, w0⟩, turn⟩ := h2
 subst e
 have stat : ∀ {H' : Hp}, (∀ b ∈ fp, H' b = none) → ∀ b ∈ fp, FpOk X pins H' b := fun hn b hb => ⟨hn b hb, (f2 b hb).2⟩
 refine codeAny_forLoop_any (fun n s' => ∃ i σ' H', Inv X pins σ' H' s' ∧ tn i s'.heap ∧ (∀ b ∈ fp, H' b = none) ∧ W i n σ' H') ?_ m0 ⟨0, σ, H2, I2, st2, fun b hb => (f2 b hb).1, w0⟩
 rintro n s3 ⟨i, σ3, H3, I3, st3, fr3, w3⟩
 rcases turn i n σ3 H3 w3 with ⟨stop, qn⟩ | ⟨go, N, hN, step⟩
 ·refine wpAny_passesOwn hp (thn (T.done X rfl rfl rfl rfl i pins s3 σ3 H3 X.xe I3 (stat fr3) st3 stop) fun r s4 ⟨hr, I4⟩ => ?_)
  subst hr
  exact wpAny_execs_nil ⟨σ3, H3, I4, qn⟩
 ·refine wpAny_passesOwn hp (thn (T.item X rfl rfl rfl rfl i pins s3 σ3 H3 X.xe I3 (stat fr3) st3 go) fun r s4 ⟨u, hr, h4⟩ => ?_)
  subst hr
  refine wpAny_passesOwn hp (thn h4 fun _ s5 ⟨x, H5, I5, r5, y5, st5, fr5⟩ => ?_)
  have I5' := I5.pinned (stat fr5) (T.obj _ _ st5)
  refine wpAny_passesOwn hp (thn (hg _ s5 σ3 H5 x u _ I5' r5 (step x H5 y5)) fun _ s6 ⟨σ6, H6, I6, q6⟩ => ?_)
  refine wpAny_passesOwn hp (thn (hb _ s6 σ6 H6 _ I6 q6) fun f s7 q7 => ?_)
  have again : ∀ {σ7 : St} {H7 : Hp}, Inv X (pins ++ pinsAt fp s5.heap) σ7 H7 s7 → N σ7 H7 → ∃ m, m < n ∧ ∃ i σ' H', Inv X pins σ' H' s7 ∧ tn i s7.heap ∧ (∀ b ∈ fp, H' b = none) ∧ W i m σ' H' := fun {σ7 H7} I7 n7 => by
   obtain ⟨m', hm, w7⟩ := hN σ7 H7 n7
   refine ⟨m', hm, i + 1, σ7, H7, I7.unpinned, T.keep _ _ _ st5 fun b hb o e => (I7.pin (b, o) (List.mem_append_right _ (List.mem_append_right _ (mem_pinsAt hb e)))).1, fun b hb => ?_, w7⟩
   obtain ⟨o, e, d⟩ := T.obj _ _ st5 b hb
   exact (I7.pin (b, o) (List.mem_append_right _ (List.mem_append_right _ (mem_pinsAt hb e)))).2.1
  cases f with
  | next => obtain ⟨σ7, H7, I7, n7⟩ := q7; exact again I7 n7
  | cont => obtain ⟨σ7, H7, I7, n7⟩ := q7; exact again I7 n7
  | brk => obtain ⟨σ7, H7, I7, q7⟩ := q7; exact ⟨σ7, H7, I7.unpinned, q7⟩
  | ret v => obtain ⟨x7, σ7, H7, I7, r7, q7⟩ := q7; exact ⟨x7, σ7, H7, I7.unpinned, r7, q7⟩
end
theorem for_list {K : PySem.W.Frag} {a : Addr} {xs : List V} {g : TG} {tb : TS} {D : Ends} {σ : St} {H : Hp} (Pv : Nat → St → Hp → Prop) (h0 : Pv 0 σ H) (hl : ∀ i σ H, i ≤ xs.length → Pv i σ H → SqL K H a xs)
  (hs : ∀ i x σ H, xs[i]? = some x → Pv i σ H → g x σ H fun σ2 H2 => tb { D with nx := Pv (i + 1), ct := Pv (i + 1), bk := D.nx } σ2 H2) (hd : ∀ σ H, Pv xs.length σ H → D.nx σ H) :
  ∃ W : Nat → Nat → St → Hp → Prop, (∃ m, W 0 m σ H) ∧ ∀ i m σ H, W i m σ H →
   ((Itl K a).stop i H ∧ D.nx σ H) ∨ ((Itl K a).go i H ∧ ∃ N : St → Hp → Prop, (∀ σ' H', N σ' H' → ∃ m', m' < m ∧ W (i + 1) m' σ' H') ∧ ∀ x H', (Itl K a).yld i H x H' → g x σ H' fun σ2 H2 => tb { D with nx := N, ct := N, bk := D.nx } σ2 H2) := by
 refine ⟨fun i m σ H => m = xs.length - i ∧ i ≤ xs.length ∧ Pv i σ H, ⟨xs.length, by simp, Nat.zero_le _, h0⟩, ?_⟩
 rintro i m σ H ⟨rfl, hi, p⟩
 have q := hl i σ H hi p
 by_cases hlt : i < xs.length
 ·refine .inr ⟨⟨xs, xs[i], q, by simp [hlt]⟩, Pv (i + 1), fun σ' H' p' => ⟨xs.length - (i + 1), by omega, rfl, hlt, p'⟩, fun x H' y => ?_⟩
  obtain ⟨e, y⟩ := y
  subst e
  exact hs i x σ _ (y xs q) p
 ·have e : i = xs.length := by omega
  subst e
  exact .inl ⟨⟨xs, q, Nat.le_refl _⟩, hd σ H p⟩
theorem for_tup {K : PySem.W.Frag} {a : Addr} {xs : List V} {g : TG} {tb : TS} {D : Ends} {σ : St} {H : Hp} (Pv : Nat → St → Hp → Prop) (h0 : Pv 0 σ H) (hl : ∀ i σ H, i ≤ xs.length → Pv i σ H → SqT K H a xs)
  (hs : ∀ i x σ H, xs[i]? = some x → Pv i σ H → g x σ H fun σ2 H2 => tb { D with nx := Pv (i + 1), ct := Pv (i + 1), bk := D.nx } σ2 H2) (hd : ∀ σ H, Pv xs.length σ H → D.nx σ H) :
  ∃ W : Nat → Nat → St → Hp → Prop, (∃ m, W 0 m σ H) ∧ ∀ i m σ H, W i m σ H →
   ((Itt K a).stop i H ∧ D.nx σ H) ∨ ((Itt K a).go i H ∧ ∃ N : St → Hp → Prop, (∀ σ' H', N σ' H' → ∃ m', m' < m ∧ W (i + 1) m' σ' H') ∧ ∀ x H', (Itt K a).yld i H x H' → g x σ H' fun σ2 H2 => tb { D with nx := N, ct := N, bk := D.nx } σ2 H2) := by
 refine ⟨fun i m σ H => m = xs.length - i ∧ i ≤ xs.length ∧ Pv i σ H, ⟨xs.length, by simp, Nat.zero_le _, h0⟩, ?_⟩
 rintro i m σ H ⟨rfl, hi, p⟩
 have q := hl i σ H hi p
 by_cases hlt : i < xs.length
 ·refine .inr ⟨⟨xs, xs[i], q, by simp [hlt]⟩, Pv (i + 1), fun σ' H' p' => ⟨xs.length - (i + 1), by omega, rfl, hlt, p'⟩, fun x H' y => ?_⟩
  obtain ⟨e, y⟩ := y
  subst e
  exact hs i x σ _ (y xs q) p
 ·have e : i = xs.length := by omega
  subst e
  exact .inl ⟨⟨xs, q, Nat.le_refl _⟩, hd σ H p⟩
theorem for_range {lo : Int} {n : Nat} {g : TG} {tb : TS} {D : Ends} {σ : St} {H : Hp} (Pv : Nat → St → Hp → Prop) (h0 : Pv 0 σ H)
  (hs : ∀ i σ H, i < n → Pv i σ H → g (.int (lo + i)) σ H fun σ2 H2 => tb { D with nx := Pv (i + 1), ct := Pv (i + 1), bk := D.nx } σ2 H2) (hd : ∀ σ H, Pv n σ H → D.nx σ H) :
  ∃ W : Nat → Nat → St → Hp → Prop, (∃ m, W 0 m σ H) ∧ ∀ i m σ H, W i m σ H →
   ((Itr lo n).stop i H ∧ D.nx σ H) ∨ ((Itr lo n).go i H ∧ ∃ N : St → Hp → Prop, (∀ σ' H', N σ' H' → ∃ m', m' < m ∧ W (i + 1) m' σ' H') ∧ ∀ x H', (Itr lo n).yld i H x H' → g x σ H' fun σ2 H2 => tb { D with nx := N, ct := N, bk := D.nx } σ2 H2) := by
 refine ⟨fun i m σ H => m = n - i ∧ i ≤ n ∧ Pv i σ H, ⟨n, by simp, Nat.zero_le _, h0⟩, ?_⟩
 rintro i m σ H ⟨rfl, hi, p⟩
 by_cases hlt : i < n
 ·refine .inr ⟨hlt, Pv (i + 1), fun σ' H' p' => ⟨n - (i + 1), by omega, rfl, hlt, p'⟩, fun x H' y => ?_⟩
  obtain ⟨e, y⟩ := y
  subst e y
  exact hs i σ _ hlt p
 ·have e : i = n := by omega
  subst e
  exact .inl ⟨Nat.le_refl _, hd σ H p⟩
end L2
namespace L2
open PySem PySem.Spec PyProof.Rows
noncomputable abbrev R2 := V → V → Hp → VK → Prop
noncomputable def OpR (X : Cx) (f : Value → Value → Sem Value) (r : R2) : Prop :=
 ∀ (pins : List (Addr × Obj)) (s : Shared) (σ : St) (H : Hp) (x y : V) (v u : Value) (Q : VK), Inv X pins σ H s → RelV x v → RelV y u → r x y H Q →
  wpAny (model X.prog X.w) X.A (f v u) (EP X pins σ Q) X.xe s
noncomputable def UnR (X : Cx) (f : Value → Sem Value) (r : V → Hp → VK → Prop) : Prop :=
 ∀ (pins : List (Addr × Obj)) (s : Shared) (σ : St) (H : Hp) (x : V) (v : Value) (Q : VK), Inv X pins σ H s → RelV x v → r x H Q →
  wpAny (model X.prog X.w) X.A (f v) (EP X pins σ Q) X.xe s
noncomputable def CallR (X : Cx) (f : Value) (r : List V → Hp → VK → Prop) : Prop :=
 ∀ (pins : List (Addr × Obj)) (s : Shared) (σ : St) (H : Hp) (xs : List V) (us : List Value) (Q : VK), Inv X pins σ H s → Vals xs us → r xs H Q →
  wpAny (model X.prog X.w) X.A (call f us) (EP X pins σ Q) X.xe s
noncomputable def TruR (X : Cx) (r : V → Hp → (Bool → Hp → Prop) → Prop) : Prop :=
 ∀ (pins : List (Addr × Obj)) (s : Shared) (σ : St) (H : Hp) (x : V) (v : Value) (Q : Bool → Hp → Prop), Inv X pins σ H s → RelV x v → r x H Q →
  wpAny (model X.prog X.w) X.A (truthy v) (TP X pins σ Q) X.xe s
noncomputable def tOp (r : R2) (ta tb : TE) : TE := fun σ H Q => ta σ H fun x H1 => tb σ H1 fun y H2 => r x y H2 Q
noncomputable def tUn (r : V → Hp → VK → Prop) (ta : TE) : TE := fun σ H Q => ta σ H fun x H1 => r x H1 Q
noncomputable def rI (C : Int → Int → Prop) (g : Int → Int → V) : R2 := fun x y H Q => ∃ i j, x = .int i ∧ y = .int j ∧ C i j ∧ Q (g i j) H
noncomputable def rI0 (g : Int → Int → V) : R2 := fun x y H Q => ∃ i j, x = .int i ∧ y = .int j ∧ Q (g i j) H
noncomputable def rU (g : Int → V) : V → Hp → VK → Prop := fun x H Q => ∃ i, x = .int i ∧ Q (g i) H
section
variable {X : Cx} {a b c : Expr} {ta tb tc : TE} {pos : Pos}
theorem binT (ha : PE X a ta) (hb : PE X b tb) {pins : List (Addr × Obj)} {s : Shared} {σ : St} {H : Hp} {R : V → V → Hp → Prop} (I : Inv X pins σ H s)
  (h : ta σ H fun x H1 => tb σ H1 fun y H2 => R x y H2) {Q : Value → Shared → Prop} {f : Value → Value → Sem Value}
  (hf : ∀ v u s2 x y H2, Inv X pins σ H2 s2 → RelV x v → RelV y u → R x y H2 → wpAny (model X.prog X.w) X.A (f v u) Q X.xe s2) :
  wpAny (model X.prog X.w) X.A (eval a X.env) (fun v s₁ => wpAny (model X.prog X.w) X.A (eval b X.env) (fun u s₂ => wpAny (model X.prog X.w) X.A (f v u) Q X.xe s₂) X.xe s₁) X.xe s := by
 refine thn (ha pins s σ H _ I h) fun v s1 ⟨x, H1, I1, r1, q1⟩ => ?_
 refine thn (hb pins s1 σ H1 _ I1 q1) fun u s2 ⟨y, H2, I2, r2, q2⟩ => ?_
 exact hf v u s2 x y H2 I2 r1 r2 q2
theorem pe_op {op : Operator} {r : R2} (ho : OpR X (binaryOp op) r) (ha : PE X a ta) (hb : PE X b tb) : PE X (.BinOp a op b pos) (tOp r ta tb) := by
 constructor
 intro pins s σ H Q I h
 exact wpAny_BinOp (binT ha hb I h fun v u s2 x y H2 I2 rx ry q => ho pins s2 σ H2 x y v u Q I2 rx ry q)
theorem pe_un {op : UnaryOp} {r : V → Hp → VK → Prop} (ho : UnR X (unaryOp op) r) (ha : PE X a ta) : PE X (.UnaryOp op a pos) (tUn r ta) := by
 constructor
 intro pins s σ H Q I h
 exact UnaryOp_ (thn (ha pins s σ H _ I h) fun v s1 ⟨x, H1, I1, r1, q1⟩ => ho pins s1 σ H1 x v Q I1 r1 q1)
theorem opI {f : Value → Value → Sem Value} {C : Int → Int → Prop} {g : Int → Int → Int}
  (rule : ∀ (i j : Int) (t u : Tok) (s : Shared) (Q : Value → Shared → Prop) (E : Value → Shared → Prop), C i j → Q (.int (g i j) s.toks) { s with toks := s.toks + 1 } → wpAny (model X.prog X.w) X.A (f (.int i t) (.int j u)) Q E s) :
  OpR X f (rI C fun i j => .int (g i j)) := by
 intro pins s σ H x y v u Q I rx ry h
 obtain ⟨i, j, rfl, rfl, hc, q⟩ := h
 obtain ⟨t, rfl⟩ := rx
 obtain ⟨t', rfl⟩ := ry
 exact rule i j t t' s _ _ hc ⟨.int (g i j), H, I.tok _, ⟨_, rfl⟩, q⟩
theorem opI0 {f : Value → Value → Sem Value} {g : Int → Int → Int}
  (rule : ∀ (i j : Int) (t u : Tok) (s : Shared) (Q : Value → Shared → Prop) (E : Value → Shared → Prop), Q (.int (g i j) s.toks) { s with toks := s.toks + 1 } → wpAny (model X.prog X.w) X.A (f (.int i t) (.int j u)) Q E s) :
  OpR X f (rI0 fun i j => .int (g i j)) := by
 intro pins s σ H x y v u Q I rx ry h
 obtain ⟨i, j, rfl, rfl, q⟩ := h
 obtain ⟨t, rfl⟩ := rx
 obtain ⟨t', rfl⟩ := ry
 exact rule i j t t' s _ _ ⟨.int (g i j), H, I.tok _, ⟨_, rfl⟩, q⟩
theorem opB0 {f : Value → Value → Sem Value} {g : Int → Int → Bool}
  (rule : ∀ (i j : Int) (t u : Tok) (s : Shared) (Q : Value → Shared → Prop) (E : Value → Shared → Prop), Q (.bool (g i j)) s → wpAny (model X.prog X.w) X.A (f (.int i t) (.int j u)) Q E s) :
  OpR X f (rI0 fun i j => .bl (g i j)) := by
 intro pins s σ H x y v u Q I rx ry h
 obtain ⟨i, j, rfl, rfl, q⟩ := h
 obtain ⟨t, rfl⟩ := rx
 obtain ⟨t', rfl⟩ := ry
 exact rule i j t t' s _ _ ⟨.bl (g i j), H, I, rfl, q⟩
noncomputable def CDiv (i j : Int) : Prop := 0 < j ∧ j < 1073741824
noncomputable def CDivN (i j : Int) : Prop := j ≠ 0 ∧ j.natAbs < 1073741824
noncomputable def CPow (i j : Int) : Prop := 0 ≤ j ∧ j ≤ 1000000 ∧ i.natAbs < 2 ^ 64
noncomputable def CMul (i j : Int) : Prop := (-(2 ^ 64) < i ∧ i < 2 ^ 64) ∨ (-(2 ^ 64) < j ∧ j < 2 ^ 64)
theorem CMul.ok {i j : Int} (h : CMul i j) : IntMulOk i j := by
 rcases h with ⟨h1, h2⟩ | ⟨h1, h2⟩
 ·exact .of_left (intBits_le_64 h1 h2)
 ·exact .of_right (intBits_le_64 h1 h2)
theorem op_add : OpR X (binaryOp .Add) (rI0 fun i j => .int (i + j)) := opI0 fun _ _ _ _ _ _ _ q => add_int q
theorem op_sub : OpR X (binaryOp .Sub) (rI0 fun i j => .int (i - j)) := opI0 fun _ _ _ _ _ _ _ q => sub_int q
theorem op_mod : OpR X (binaryOp .Mod) (rI (fun _ j => 0 < j) fun i j => .int (i % j)) := opI fun i j _ _ _ _ _ hc q => by
 have h1 : (0 : Int) < j := hc
 exact mod_int' (by omega) (by rw [Int.fmod_eq_emod_of_nonneg i (by omega)]; exact q)
theorem op_pow : OpR X (binaryOp .Pow) (rI CPow fun i j => .int (i ^ j.toNat)) := opI fun _ _ _ _ _ _ _ hc q => pow_int_small hc.1 hc.2.1 hc.2.2 q
theorem op_shl : OpR X (binaryOp .LShift) (rI CPow fun i j => .int (i * 2 ^ j.toNat)) := opI fun _ _ _ _ _ _ _ hc q => lshift_int_small hc.1 hc.2.1 hc.2.2 q
theorem unI {f : Value → Sem Value} {g : Int → Int}
  (rule : ∀ (i : Int) (t : Tok) (s : Shared) (Q : Value → Shared → Prop) (E : Value → Shared → Prop), Q (.int (g i) s.toks) { s with toks := s.toks + 1 } → wpAny (model X.prog X.w) X.A (f (.int i t)) Q E s) :
  UnR X f (rU fun i => .int (g i)) := by
 intro pins s σ H x v Q I rx h
 obtain ⟨i, rfl, q⟩ := h
 obtain ⟨t, rfl⟩ := rx
 exact rule i t s _ _ ⟨.int (g i), H, I.tok _, ⟨_, rfl⟩, q⟩
theorem un_neg : UnR X (unaryOp .USub) (rU fun i => .int (-i)) := unI fun _ _ _ _ _ q => neg_int q
end
noncomputable def scal : V → V → Bool
 | .non, .non => true | .non, .int _ => true | .int _, .non => true | .non, .bl _ => true | .bl _, .non => true | .non, .str _ => true | .str _, .non => true
 | .int _, .int _ => true | .bl _, .bl _ => true | .str _, .str _ => true | .byt _, .byt _ => true
 | .int _, .str _ => true | .str _, .int _ => true | .bl _, .str _ => true | .str _, .bl _ => true
 | _, _ => false
noncomputable def rEq : R2 := fun x y H Q => scal x y = true ∧ Q (.bl (decide (x = y))) H
noncomputable def rNe : R2 := fun x y H Q => scal x y = true ∧ Q (.bl (!decide (x = y))) H
theorem dec_int {i j : Int} : decide (V.int i = V.int j) = (i == j) := by
 rw [Bool.eq_iff_iff]
 simp
theorem dec_bl {i j : Bool} : decide (V.bl i = V.bl j) = (i == j) := by
 rw [Bool.eq_iff_iff]
 simp
theorem dec_str {i j : Str} : decide (V.str i = V.str j) = (i == j) := by
 rw [Bool.eq_iff_iff]
 simp
theorem dec_byt {i j : Array UInt8} : decide (V.byt i = V.byt j) = (i.toList == j.toList) := by
 rw [Bool.eq_iff_iff]
 cases i
 cases j
 simp
section
variable {X : Cx} {a b c : Expr} {ta tb tc : TE} {pos : Pos}
theorem fin_bl {pins : List (Addr × Obj)} {σ : St} {H : Hp} {s : Shared} {Q : VK} {k k' : Bool} (I : Inv X pins σ H s) (q : Q (.bl k) H) (e : k = k') : EP X pins σ Q (.bool k') s := by
 subst e
 exact ⟨.bl k, H, I, rfl, q⟩
theorem op_eq : OpR X (compareOp .Eq) rEq := by
 intro pins s σ H x y v u Q I rx ry h
 obtain ⟨hs, q⟩ := h
 cases x with
 | non =>
  cases rx
  cases y with
  | non => cases ry; exact PySem.EqNone.eq_none_none (fin_bl I q (by simp))
  | bl j => cases ry; exact PySem.EqNone.eq_none_bool (fin_bl I q (by simp))
  | int j => obtain ⟨t', rfl⟩ := ry; exact PySem.EqNone.eq_none_int (fin_bl I q (by simp))
  | str j => obtain ⟨t', rfl⟩ := ry; exact PySem.EqNone.eq_none_str (fin_bl I q (by simp))
  | _ => exact absurd (show false = true from hs) Bool.false_ne_true
 | bl i =>
  cases rx
  cases y with
  | non => cases ry; exact PySem.EqNone.eq_bool_none (fin_bl I q (by simp))
  | bl j => cases ry; exact eq_bool (fin_bl I q dec_bl)
  | str j => obtain ⟨t', rfl⟩ := ry; exact PySem.EqMixed.eq_bool_str (fin_bl I q (by simp))
  | _ => exact absurd (show false = true from hs) Bool.false_ne_true
 | int i =>
  obtain ⟨t, rfl⟩ := rx
  cases y with
  | non => cases ry; exact PySem.EqNone.eq_int_none (fin_bl I q (by simp))
  | int j => obtain ⟨t', rfl⟩ := ry; exact eq_int (fin_bl I q dec_int)
  | str j => obtain ⟨t', rfl⟩ := ry; exact PySem.EqMixed.eq_int_str (fin_bl I q (by simp))
  | _ => exact absurd (show false = true from hs) Bool.false_ne_true
 | str i =>
  obtain ⟨t, rfl⟩ := rx
  cases y with
  | non => cases ry; exact PySem.EqNone.eq_str_none (fin_bl I q (by simp))
  | bl j => cases ry; exact PySem.EqMixed.eq_str_bool (fin_bl I q (by simp))
  | int j => obtain ⟨t', rfl⟩ := ry; exact PySem.EqMixed.eq_str_int (fin_bl I q (by simp))
  | str j => obtain ⟨t', rfl⟩ := ry; exact eq_str (fin_bl I q dec_str)
  | _ => exact absurd (show false = true from hs) Bool.false_ne_true
 | byt i =>
  obtain ⟨t, rfl⟩ := rx
  cases y with
  | byt j => obtain ⟨t', rfl⟩ := ry; exact PySem.W.eq_bytes (fin_bl I q dec_byt)
  | _ => exact absurd (show false = true from hs) Bool.false_ne_true
 | _ => cases y <;> exact absurd (show false = true from hs) Bool.false_ne_true
theorem op_ne : OpR X (compareOp .NotEq) rNe := by
 intro pins s σ H x y v u Q I rx ry h
 obtain ⟨hs, q⟩ := h
 cases x with
 | non =>
  cases rx
  cases y with
  | non => cases ry; exact PySem.EqNone.ne_none_none (fin_bl I q (by simp))
  | bl j => cases ry; exact PySem.EqNone.ne_none_bool (fin_bl I q (by simp))
  | int j => obtain ⟨t', rfl⟩ := ry; exact PySem.EqNone.ne_none_int (fin_bl I q (by simp))
  | str j => obtain ⟨t', rfl⟩ := ry; exact PySem.EqNone.ne_none_str (fin_bl I q (by simp))
  | _ => exact absurd (show false = true from hs) Bool.false_ne_true
 | bl i =>
  cases rx
  cases y with
  | non => cases ry; exact PySem.EqNone.ne_bool_none (fin_bl I q (by simp))
  | bl j => cases ry; exact ne_bool (fin_bl I q (congrArg not dec_bl))
  | str j => obtain ⟨t', rfl⟩ := ry; exact PySem.EqMixed.ne_bool_str (fin_bl I q (by simp))
  | _ => exact absurd (show false = true from hs) Bool.false_ne_true
 | int i =>
  obtain ⟨t, rfl⟩ := rx
  cases y with
  | non => cases ry; exact PySem.EqNone.ne_int_none (fin_bl I q (by simp))
  | int j => obtain ⟨t', rfl⟩ := ry; exact ne_int (fin_bl I q (congrArg not dec_int))
  | str j => obtain ⟨t', rfl⟩ := ry; exact PySem.EqMixed.ne_int_str (fin_bl I q (by simp))
  | _ => exact absurd (show false = true from hs) Bool.false_ne_true
 | str i =>
  obtain ⟨t, rfl⟩ := rx
  cases y with
  | non => cases ry; exact PySem.EqNone.ne_str_none (fin_bl I q (by simp))
  | bl j => cases ry; exact PySem.EqMixed.ne_str_bool (fin_bl I q (by simp))
  | int j => obtain ⟨t', rfl⟩ := ry; exact PySem.EqMixed.ne_str_int (fin_bl I q (by simp))
  | str j => obtain ⟨t', rfl⟩ := ry; exact ne_str (fin_bl I q (congrArg not dec_str))
  | _ => exact absurd (show false = true from hs) Bool.false_ne_true
 | byt i =>
  obtain ⟨t, rfl⟩ := rx
  cases y with
  | byt j => obtain ⟨t', rfl⟩ := ry; exact PySem.W.ne_bytes (fin_bl I q (congrArg not dec_byt))
  | _ => exact absurd (show false = true from hs) Bool.false_ne_true
 | _ => cases y <;> exact absurd (show false = true from hs) Bool.false_ne_true
theorem op_lt : OpR X (compareOp .Lt) (rI0 fun i j => .bl (decide (i < j))) := opB0 fun _ _ _ _ _ _ _ q => lt_int q
theorem op_le : OpR X (compareOp .LtE) (rI0 fun i j => .bl (decide (i ≤ j))) := opB0 fun _ _ _ _ _ _ _ q => le_int q
theorem op_gt : OpR X (compareOp .Gt) (rI0 fun i j => .bl (decide (j < i))) := opB0 fun _ _ _ _ _ _ _ q => gt_int q
noncomputable def isObj : HO → Bool
 | .lst _ => true
 | .ins _ _ _ => true
 | _ => false
theorem nomark (b : Expr) {op : CmpOp} (h : op ≠ .In := by decide) (h2 : op ≠ .NotIn := by decide) : behindInMarks op b = false := by
 have e1 : (op == CmpOp.In) = false := by cases op <;> first | rfl | exact absurd rfl h
 have e2 : (op == CmpOp.NotIn) = false := by cases op <;> first | rfl | exact absurd rfl h2
 cases b <;> simp [behindInMarks, e1, e2]
theorem pe_cmpR {op : CmpOp} {r : R2} (ho : OpR X (compareOp op) r) (ha : PE X a ta) (hb : PE X b tb) (hm : behindInMarks op b = false) : PE X (.Compare a [op] [b] pos) (tOp r ta tb) := by
 constructor
 intro pins s σ H Q I h
 exact wpAny_Compare1 (binT ha hb I h fun v u s2 x y H2 I2 rx ry q => ho pins s2 σ H2 x y v u Q I2 rx ry q) hm
noncomputable def tTest (t : TE) : TT := fun σ H Q => t σ H fun x H' => ∃ k, x = .bl k ∧ Q k H'
theorem pt_cmpR {op : CmpOp} {r : R2} (ho : OpR X (compareOp op) r) (ha : PE X a ta) (hb : PE X b tb) (hm : behindInMarks op b = false) : PT X (.Compare a [op] [b] pos) (tTest (tOp r ta tb)) := by
 constructor
 intro pins s σ H Q I h
 refine wpAny_isTrue_Compare1 (thn (ha pins s σ H _ I h) fun v s1 ⟨x, H1, I1, r1, q1⟩ => thn (hb pins s1 σ H1 _ I1 q1) fun u s2 ⟨y, H2, I2, r2, q2⟩ =>
  thn (ho pins s2 σ H2 x y v u _ I2 r1 r2 q2) fun c s3 ⟨z, H3, I3, r3, k, e, q3⟩ => ?_) hm
 subst e
 cases r3
 exact wpAny_truthy_bool ⟨H3, I3, q3⟩
noncomputable def tChain (r r' : R2) (ta tb tc : TE) : TE := fun σ H Q => ta σ H fun x H1 => tb σ H1 fun y H2 => r x y H2 fun z H3 => ∃ k, z = .bl k ∧
 (if k = true then tc σ H3 fun w' H4 => r' y w' H4 Q else Q (.bl false) H3)
theorem pe_chain {op op' : CmpOp} {r r' : R2} (ho : OpR X (compareOp op) r) (ho' : OpR X (compareOp op') r') (ha : PE X a ta) (hb : PE X b tb) (hc : PE X c tc)
  (hm : lastMarks [op, op'] [b, c] = false := by with_unfolding_all rfl) : PE X (.Compare a [op, op'] [b, c] pos) (tChain r r' ta tb tc) := by
 constructor
 intro pins s σ H Q I h
 refine Compare_chain (thn (ha pins s σ H _ I h) fun v s1 ⟨x, H1, I1, r1, q1⟩ => chain_link (thn (hb pins s1 σ H1 _ I1 q1) fun u s2 ⟨y, H2, I2, r2, q2⟩ =>
  thn (ho pins s2 σ H2 x y v u _ I2 r1 r2 q2) fun d s3 ⟨z, H3, I3, r3, k, e, q3⟩ => ?_)) hm
 subst e
 cases r3
 refine wpAny_truthy_bool ?_
 cases k with
 | false => exact ite_ff ⟨.bl false, H3, I3, rfl, q3⟩
 | true => exact ite_tt (chain_last (thn (hc pins s3 σ H3 _ I3 q3) fun w' s4 ⟨z', H4, I4, r4, q4⟩ => ho' pins s4 σ H4 y z' u w' Q I4 r2 r4 q4))
theorem pt_chain {op op' : CmpOp} {r r' : R2} (ho : OpR X (compareOp op) r) (ho' : OpR X (compareOp op') r') (ha : PE X a ta) (hb : PE X b tb) (hc : PE X c tc)
  (hm : lastMarks [op, op'] [b, c] = false := by with_unfolding_all rfl) : PT X (.Compare a [op, op'] [b, c] pos) (tTest (tChain r r' ta tb tc)) := by
 constructor
 intro pins s σ H Q I h
 refine isTrue_chain (thn (ha pins s σ H _ I h) fun v s1 ⟨x, H1, I1, r1, q1⟩ => test_link (thn (hb pins s1 σ H1 _ I1 q1) fun u s2 ⟨y, H2, I2, r2, q2⟩ =>
  thn (ho pins s2 σ H2 x y v u _ I2 r1 r2 q2) fun d s3 ⟨z, H3, I3, r3, k, e, q3⟩ => ?_)) hm
 subst e
 cases r3
 refine wpAny_truthy_bool ?_
 cases k with
 | false =>
  obtain ⟨k', e', q'⟩ := q3
  cases e'
  exact ite_ff ⟨H3, I3, q'⟩
 | true =>
  refine ite_tt (test_last (thn (hc pins s3 σ H3 _ I3 q3) fun w' s4 ⟨z', H4, I4, r4, q4⟩ => thn (ho' pins s4 σ H4 y z' u w' _ I4 r2 r4 q4) fun d' s5 ⟨z2, H5, I5, r5, k2, e2, q5⟩ => ?_))
  subst e2
  cases r5
  exact wpAny_truthy_bool ⟨H5, I5, q5⟩
noncomputable def TruV (K : PySem.W.Frag) (x : V) (H : Hp) (k : Bool) : Prop :=
 match x with
 | .non => k = false
 | .bl b => k = b
 | .int i => k = (i != 0)
 | .str y => y.length ≤ sizeLine ∧ k = ((y.length : Int) != 0)
 | .byt y => y.size ≤ sizeLine ∧ k = ((y.size : Int) != 0)
 | .ref p => (∃ xs, SqL K H p xs ∧ k = !xs.isEmpty) ∨ (∃ xs, SqT K H p xs ∧ k = !xs.isEmpty) ∨ ∃ kvs, H p = some (.dK kvs) ∧ k = !kvs.isEmpty
 | _ => False
theorem line63 : (sizeLine : Nat) < 2 ^ 63 := by rw [sizeLine_eq]; decide
noncomputable def PlainIxT (b : Expr) : Prop := ∀ o i, subscripted b false o i = operate [o, i] (getItem o i)
theorem vals1 {x : V} {us : List Value} (r : Vals [x] us) : ∃ u, us = [u] ∧ RelV x u := by
 cases r with
 | cons r1 r2 => cases r2; exact ⟨_, rfl, r1⟩
theorem vals2 {x y : V} {us : List Value} (r : Vals [x, y] us) : ∃ u w', us = [u, w'] ∧ RelV x u ∧ RelV y w' := by
 cases r with
 | cons r1 r2 =>
  cases r2 with
  | cons r3 r4 => cases r4; exact ⟨_, _, rfl, r1, r3⟩
theorem call_max2 (hc : X.calm = true) : CallR X (.builtin "max") (fun xs H Q => ∃ i j, xs = [.int i, .int j] ∧ Q (.int (if j > i then j else i)) H) := by
 intro pins s σ H xs us Q I r h
 obtain ⟨i, j, rfl, q⟩ := h
 obtain ⟨u, w', rfl, ⟨t, rfl⟩, ⟨t', rfl⟩⟩ := vals2 r
 refine max_two_ints (I.ok.hd hc) fun h' tk k => ⟨_, H, I.kept k, ?_, q⟩
 by_cases hj : j > i
 ·rw [if_pos hj, if_pos hj]; exact ⟨_, rfl⟩
 ·rw [if_neg hj, if_neg hj]; exact ⟨_, rfl⟩
theorem call_min2 (hc : X.calm = true) : CallR X (.builtin "min") (fun xs H Q => ∃ i j, xs = [.int i, .int j] ∧ Q (.int (if j < i then j else i)) H) := by
 intro pins s σ H xs us Q I r h
 obtain ⟨i, j, rfl, q⟩ := h
 obtain ⟨u, w', rfl, ⟨t, rfl⟩, ⟨t', rfl⟩⟩ := vals2 r
 refine min_two_ints (I.ok.hd hc) fun h' tk k => ⟨_, H, I.kept k, ?_, q⟩
 by_cases hj : j < i
 ·rw [if_pos hj, if_pos hj]; exact ⟨_, rfl⟩
 ·rw [if_neg hj, if_neg hj]; exact ⟨_, rfl⟩
theorem call_int1 : CallR X (.type "int") (fun xs H Q => (∃ i, xs = [.int i] ∧ Q (.int i) H) ∨ ∃ k, xs = [.bl k] ∧ Q (.int (if k then 1 else 0)) H) := by
 intro pins s σ H xs us Q I r h
 rcases h with ⟨i, rfl, q⟩ | ⟨k, rfl, q⟩
 ·obtain ⟨u, rfl, t, rfl⟩ := vals1 r
  exact call_int_int ⟨.int i, H, I, ⟨_, rfl⟩, q⟩
 ·obtain ⟨u, rfl, r1⟩ := vals1 r
  cases r1
  exact call_int_bool ⟨.int (if k then 1 else 0), H, I.tok _, ⟨_, rfl⟩, q⟩
noncomputable def LenV (K : PySem.W.Frag) (x : V) (H : Hp) (n : Nat) : Prop :=
 match x with
 | .str y => y.length ≤ sizeLine ∧ n = y.length
 | .byt y => y.size ≤ sizeLine ∧ n = y.size
 | .ref p => (∃ xs, SqL K H p xs ∧ n = xs.length) ∨ ∃ xs, SqT K H p xs ∧ n = xs.length
 | _ => False
end
end L2
namespace L2
open PySem PySem.Spec PyProof.Rows
structure ObjM (h : Heap) (x dx C : Addr) (mA : Str → Option Value) : Prop where
 obj : h.get? x = some (PySem.W.instObj C dx)
 ns : h.Ns1 dx mA
 ne : dx ≠ x
theorem lookIn_ns {h : Heap} {dx : Addr} {mA : Str → Option Value} (n : h.Ns1 dx mA) : ∃ od, h.get? dx = some od ∧ ∀ name, PySem.W.lookIn name od = some (mA name) := by
 obtain ⟨o, es, ep, ho, hd, hk, _, hm⟩ := n
 refine ⟨o, ho, fun name => ?_⟩
 have e := hm name
 unfold nsFind findBy at e
 rw [← Array.find?_toList] at e
 unfold PySem.W.lookIn
 rw [hd]
 dsimp only
 split
 ·rename_i y q
  rw [q] at e
  exact congrArg some e
 ·rename_i q
  rw [q] at e
  have a : es.toList.any (·.refKey) = false := by
   rw [List.any_eq_false]
   intro y hy
   obtain ⟨z, t, hkey⟩ := hk y (Array.mem_toList_iff.mp hy)
   simp [DictEntry.refKey, hkey]
  have a' : ¬ es.toList.any (·.refKey) = true := by rw [a]; exact Bool.false_ne_true
  rw [if_neg a']
  exact congrArg some e
theorem ObjM.look {h : Heap} {x dx C : Addr} {mA : Str → Option Value} (I : ObjM h x dx C mA) : ∃ od, PySem.W.InstAt h x (PySem.W.instObj C dx) C (some od) ∧ ∀ name, PySem.W.lookIn name od = some (mA name) :=
 let ⟨od, ho, hl⟩ := lookIn_ns I.ns
 ⟨od, ⟨I.obj, rfl, rfl, ho⟩, hl⟩
section
variable {prog : Program} {w : World} {A : Around} {E : Value → Shared → Prop} {s : Shared} {K : PySem.W.Frag} {x dx C f : Addr} {mA : Str → Option Value} {name : Str} {v : Value}
theorem get_map {expr : Bool} {Q : Value → Shared → Prop} (X : K.In s.heap) (I : ObjM s.heap x dx C mA) (hg : PySem.W.plainGet K C name = true) (hh : PySem.W.hasDictIn K C = true)
  (ha : PySem.W.findIn K (.ref C) name = some none) (hv : mA name = some v) (hv' : PySem.W.handedIn v = true) (h : Q v { s with toks := s.toks + 1 }) :
  wpAny (model prog w) A (getAttr (.ref x) name expr) Q E s := by
 obtain ⟨od, J, hl⟩ := I.look
 exact PySem.W.get_value X J (PySem.W.plainGet_of hg).1 (PySem.W.findObj_own hh ha rfl (by rw [hl, hv])) hv' h
theorem get_meth {pl : Sem Bool} {Q : Value × List Value → Shared → Prop} (X : K.In s.heap) (I : ObjM s.heap x dx C mA) (hg : PySem.W.plainGet K C name = true)
  (hf : PySem.W.findIn K (.ref C) name = some (some (.ref f))) (ht : PySem.W.isFn K (.ref f) = true) (hv : mA name = none) (h : Q (.ref f, [.ref x]) s) :
  wpAny (model prog w) A (getMethod (.ref x) name pl) Q E s := by
 obtain ⟨od, J, hl⟩ := I.look
 exact PySem.W.method_fn X J (PySem.W.plainGet_of hg).1 (PySem.W.plainGet_of hg).2 hf (beq_iff_eq.mp ht) (by show (PySem.W.lookIn name od).map (·.isSome) = some false; rw [hl, hv]; rfl) h
theorem set_map {ns : List Str} {Q : Unit → Shared → Prop} (X : K.In s.heap) (I : ObjM s.heap x dx C mA)
  (hs : PySem.W.findIn K (.ref C) "__setattr__" = some (some (.builtin "object.__setattr__"))) (hp : PySem.W.plainOver K C = true) (ht : PySem.W.takerIn K C name = some none) (hh : PySem.W.hasDictIn K C = true)
  (hw : PySem.Within mA ns) (hsz : ns.length ≤ sizeLine)
  (h : ∀ h', ObjM h' x dx C (fun y => if y = name then some v else mA y) → Heap.SameBut dx s.heap h' → Q () { s with heap := h', toks := s.toks + 2 }) :
  wpAny (model prog w) A (setAttr (.ref x) name v) Q E s := by
 obtain ⟨od, J, hl⟩ := I.look
 refine PySem.W.set_plain X J hs (PySem.W.osa_open (s := { s with toks := s.toks + 1 }) (r := none) X J hp ht fun b => ?_)
 obtain ⟨cd, hc, hd'⟩ := PySem.W.any_some hh
 have hx : s.heap.get? x = some ⟨.ref C, some dx, .plain, #[]⟩ := I.obj
 refine wpAny_bind (wpAny_pure (wpAny_bind (wpAny_bind (wpAny_loadPart hx (wpAny_bind (PySem.W.Looks.here (s := { s with toks := s.toks + 1 }) (PySem.W.looks_clsIn X hc) ?_))))))
 rw [hd']
 refine wpAny_pure (a := some dx) (wpAny_bind (wpAny_pure (wpAny_bind ?_)))
 refine wpAny_nsSet1 (s := { s with toks := s.toks + 1 }) I.ns fun h' hn2 hs2 => ?_
 obtain ⟨oD, esD, epD, hoD, hdD, hcD⟩ := hn2.count (PySem.Within.cons name v hw)
 refine wpAny_bind (wpAny_lookBehind hoD (by rw [hdD]; exact pastItsLine_dict (Nat.le_trans hcD (by rw [List.length_cons]; omega))) ?_)
 exact wpAny_pure (h _ ⟨(hs2.2 _ (Ne.symm I.ne)).trans I.obj, hn2, I.ne⟩ hs2)
theorem make_map {R : Result → Shared → Prop} {vs : List Value} {kw : List (Str × Value)} (X : K.In s.heap) (hm : PySem.W.makesIn K C = true)
  (hi : PySem.W.findIn K (.ref C) "__init__" = some (some (.ref f))) (hf : PySem.W.typeIn K (.ref f) = some (.type "function"))
  (h : codeAny (model prog w) (A.under (.builtin "type.__call__" ⟨.ref C :: vs, kw⟩)) (.call (.ref f) ⟨.ref (s.heap.objs.size + 1) :: vs, kw⟩) (PySem.W.InitBack (s.heap.objs.size + 1) R)
   { s with heap := (s.heap.push PySem.W.emptyDict).push (PySem.W.instObj C s.heap.objs.size) }) :
  codeAny (model prog w) A (.call (.ref C) ⟨vs, kw⟩) R s := by
 obtain ⟨hh, g, d, t, os⟩ := s
 exact PySem.W.make_core (PySem.W.makes_of X hm) (PySem.W.looks_findIn X hi) (fun self => PySem.W.bind_fn X self hf) (.inl rfl) h
end
noncomputable def putF (f : Str) (v : V) : List (Str × V) → List (Str × V)
 | [] => [(f, v)]
 | (g, x) :: r => if g = f then (g, v) :: r else (g, x) :: putF f v r
theorem lookup_putF (f g : Str) (v : V) : ∀ fs : List (Str × V), (putF f v fs).lookup g = if g = f then some v else fs.lookup g
 | [] => by
  show List.lookup g [(f, v)] = _
  by_cases h : g = f
  ·have hb : (g == f) = true := beq_iff_eq.mpr h
   simp only [List.lookup, hb, if_pos h]
  ·have hb : (g == f) = false := beq_eq_false_iff_ne.mpr h
   simp only [List.lookup, hb, if_neg h]
 | (k, x) :: r => by
  have ih := lookup_putF f g v r
  rw [show putF f v ((k, x) :: r) = (if k = f then (k, v) :: r else (k, x) :: putF f v r) from rfl]
  by_cases hk : k = f
  ·rw [if_pos hk]
   by_cases h : g = k
   ·have hb : (g == k) = true := beq_iff_eq.mpr h
    simp only [List.lookup, hb, if_pos (h.trans hk)]
   ·have hb : (g == k) = false := beq_eq_false_iff_ne.mpr h
    simp only [List.lookup, hb, if_neg (fun e : g = f => h (e.trans hk.symm))]
  ·rw [if_neg hk]
   by_cases h : g = k
   ·have hb : (g == k) = true := beq_iff_eq.mpr h
    simp only [List.lookup, hb, if_neg (fun e : g = f => hk (h.symm.trans e))]
   ·have hb : (g == k) = false := beq_eq_false_iff_ne.mpr h
    simp only [List.lookup, hb]
    exact ih
theorem keys_putF (f : Str) (v : V) : ∀ fs : List (Str × V), f ∈ (putF f v fs).map (·.1) ∧ ∀ g, g ∈ fs.map (·.1) → g ∈ (putF f v fs).map (·.1)
 | [] => ⟨by simp [putF], fun g h => by simp at h⟩
 | (k, x) :: r => by
  obtain ⟨i1, i2⟩ := keys_putF f v r
  rw [show putF f v ((k, x) :: r) = (if k = f then (k, v) :: r else (k, x) :: putF f v r) from rfl]
  by_cases hk : k = f
  ·rw [if_pos hk]
   subst hk
   exact ⟨by simp, fun g h => by simpa using h⟩
  ·rw [if_neg hk]
   refine ⟨?_, fun g h => ?_⟩
   ·rw [List.map_cons]
    exact List.mem_cons_of_mem _ i1
   ·rw [List.map_cons] at h ⊢
    rcases List.mem_cons.mp h with e | e
    ·exact List.mem_cons.mpr (.inl e)
    ·exact List.mem_cons_of_mem _ (i2 g e)
theorem length_putF (f : Str) (v : V) : ∀ fs : List (Str × V), (putF f v fs).length ≤ fs.length + 1
 | [] => by simp [putF]
 | (k, x) :: r => by
  have ih := length_putF f v r
  rw [show putF f v ((k, x) :: r) = (if k = f then (k, v) :: r else (k, x) :: putF f v r) from rfl]
  by_cases hk : k = f
  ·rw [if_pos hk, List.length_cons, List.length_cons]; omega
  ·rw [if_neg hk, List.length_cons, List.length_cons]; omega
theorem RelO.some_of {v : V} {o : Option Value} (r : RelO (some v) o) : ∃ u, o = some u ∧ RelV v u := by
 cases o with
 | none => exact (show False from r).elim
 | some u => exact ⟨u, rfl, r⟩
theorem RelO.none_of {o : Option Value} (r : RelO none o) : o = none := by
 cases o with
 | none => rfl
 | some u => exact (show False from r).elim
theorem handed_of {v : V} {u : Value} (r : RelV v u) : PySem.W.handedIn u = true := by
 cases v with
 | non => cases (show u = Value.none from r); rfl
 | bl b => cases (show u = Value.bool b from r); rfl
 | int i => obtain ⟨t, e⟩ := (show ∃ t, u = Value.int i t from r); cases e; rfl
 | str x => obtain ⟨t, e⟩ := (show ∃ t, u = Value.str x t from r); cases e; rfl
 | byt b => obtain ⟨t, e⟩ := (show ∃ t, u = Value.bytes b t from r); cases e; rfl
 | flt b => obtain ⟨t, e⟩ := (show ∃ t, u = Value.float b t from r); cases e; rfl
 | ref a => cases (show u = Value.ref a from r); rfl
 | ty n => cases (show u = Value.type n from r); rfl
section
variable {P : Program} {w : World} {H H' : Hp} {h h' : Heap} {a C dx : Addr} {fs fs' : List (Str × V)}
theorem ins_get (hok : HOk P w H h) (e : H a = some (.ins C dx fs)) : ∃ mA, ObjM h a dx C mA ∧ (∀ f, RelO (fs.lookup f) (mA f)) ∧ PySem.Within mA (fs.map (·.1)) ∧ fs.length ≤ 1000 ∧ H dx = some (.own a) := by
 obtain ⟨d, z, ne, ob, mA, n, r, q⟩ := (show ObjOk P w H h a (.ins C dx fs) from hok a _ e)
 exact ⟨mA, ⟨ob, n, ne⟩, r, q, z, d⟩
end
structure Cls (K : PySem.W.Frag) (C : Addr) : Prop where
 pg : PySem.W.plainGet K C Str.empty = true
 hd : PySem.W.hasDictIn K C = true
 po : PySem.W.plainOver K C = true
 sa : PySem.W.findIn K (.ref C) "__setattr__" = some (some (.builtin "object.__setattr__"))
theorem Cls.get {K : PySem.W.Frag} {C : Addr} (c : Cls K C) (f : Str) : PySem.W.plainGet K C f = true := c.pg
noncomputable def NoAttr (K : PySem.W.Frag) (C : Addr) (f : Str) : Prop := PySem.W.findIn K (.ref C) f = some none
theorem NoAttr.taker {K : PySem.W.Frag} {C : Addr} {f : Str} (n : NoAttr K C f) : PySem.W.takerIn K C f = some none := by
 unfold PySem.W.takerIn
 rw [show PySem.W.findIn K (.ref C) f = some none from n]
 rfl
structure Con (K : PySem.W.Frag) (C : Addr) (f : Str) (v : V) (u : Value) : Prop where
 at_ : PySem.W.findIn K (.ref C) f = some (some u)
 rel : RelV v u
 get : PySem.W.specialIn K u "__get__" = some none
 cp : PySem.W.copiedNames.contains f = false
structure Meth (K : PySem.W.Frag) (C : Addr) (m : Str) (f : Addr) : Prop where
 at_ : PySem.W.findIn K (.ref C) m = some (some (.ref f))
 fn : PySem.W.isFn K (.ref f) = true
 kp : PySem.W.keepIn K (.ref f) = true
section
variable {X : Cx} {pins : List (Addr × Obj)} {σ : St} {H : Hp} {s : Shared} {a C dx : Addr} {fs : List (Str × V)} {f : Str} {v : V} {A : Around} {E : Value → Shared → Prop}
theorem getattr_ok {b : Bool} {Q : Value → Shared → Prop} (I : Inv X pins σ H s) (e : H a = some (.ins C dx fs)) (c : Cls X.K C) (n : NoAttr X.K C f) (l : fs.lookup f = some v)
  (h : ∀ u s', Inv X pins σ H s' → RelV v u → Q u s') : wpAny (model X.prog X.w) A (getAttr (.ref a) f b) Q E s := by
 obtain ⟨mA, O, r, _, _, _⟩ := ins_get I.hok e
 obtain ⟨u, hu, ru⟩ := RelO.some_of (v := v) (o := mA f) (by rw [← l]; exact r f)
 exact get_map I.kIn O (c.get f) c.hd n hu (handed_of ru) (h u _ (I.tok _) ru)
theorem getmeth_ok {m : Str} {g : Addr} {pl : Sem Bool} {Q : Value × List Value → Shared → Prop} (I : Inv X pins σ H s) (e : H a = some (.ins C dx fs)) (c : Cls X.K C) (k : Meth X.K C m g) (l : fs.lookup m = none)
  (h : Q (.ref g, [.ref a]) s) : wpAny (model X.prog X.w) A (getMethod (.ref a) m pl) Q E s := by
 obtain ⟨mA, O, r, _, _, _⟩ := ins_get I.hok e
 have hn : mA m = none := RelO.none_of (by rw [← l]; exact r m)
 exact get_meth I.kIn O (c.get m) k.at_ k.fn hn h
theorem setattr_ok {y : V} {u : Value} {Q : Unit → Shared → Prop} (I : Inv X pins σ H s) (e : H a = some (.ins C dx fs)) (c : Cls X.K C) (n : NoAttr X.K C f) (hl : fs.length < 1000) (ry : RelV y u)
  (h : ∀ s', Inv X pins σ (upd H a (.ins C dx (putF f y fs))) s' → Q () s') : wpAny (model X.prog X.w) A (setAttr (.ref a) f u) Q E s := by
 obtain ⟨mA, O, r, wi, _, ho⟩ := ins_get I.hok e
 have hz : (fs.map (·.1)).length ≤ sizeLine := by rw [List.length_map, sizeLine_eq]; omega
 refine set_map I.kIn O c.sa c.po n.taker c.hd wi hz fun h' O' sb => h _ ?_
 have hd : ∃ o, h'.get? dx = some o := let ⟨o, _, _, e', _⟩ := O'.ns; ⟨o, e'⟩
 refine I.write (x := a) (e := dx) (by rw [e]; exact True.intro) (.inr ho) (fun b q hb z => (sb.2 b hb).trans z) hd ?_
 refine ⟨by rw [upd_ne O.ne]; exact ho, ?_, O.ne, O'.obj, _, O'.ns, fun g => ?_, fun g hg => ?_⟩
 ·have := length_putF f y fs; omega
 ·show RelO ((putF f y fs).lookup g) (if g = f then some u else mA g)
  rw [lookup_putF]
  by_cases q : g = f
  ·rw [if_pos q, if_pos q]; exact ry
  ·rw [if_neg q, if_neg q]; exact r g
 ·by_cases q : g = f
  ·rw [q]; exact (keys_putF f y fs).1
  ·refine (keys_putF f y fs).2 g (wi g fun z => hg ?_)
   show (if g = f then some u else mA g) = none
   rw [if_neg q]; exact z
theorem Inv.made (I : Inv X pins σ H s) : Inv X pins σ (upd (upd H s.heap.objs.size (.own (s.heap.objs.size + 1))) (s.heap.objs.size + 1) (.ins C s.heap.objs.size []))
  { s with heap := (s.heap.push PySem.W.emptyDict).push (PySem.W.instObj C s.heap.objs.size) } := by
 have e1 : (s.heap.push PySem.W.emptyDict).get? s.heap.objs.size = some PySem.W.emptyDict := Heap.get?_push_size s.heap rfl
 have e2 : ((s.heap.push PySem.W.emptyDict).push (PySem.W.instObj C s.heap.objs.size)).get? (s.heap.objs.size + 1) = some (PySem.W.instObj C s.heap.objs.size) := by
  have := Heap.get?_push_size (s.heap.push PySem.W.emptyDict) (o := PySem.W.instObj C s.heap.objs.size) rfl
  rwa [Heap.size_push] at this
 have e3 : (s.heap.push PySem.W.emptyDict).Ns s.heap.objs.size (fun _ => none) := ⟨PySem.W.emptyDict, #[], _, e1, rfl, (fun e he => absurd he (by simp)), fun _ => rfl⟩
 have I1 := I.laid (a := s.heap.objs.size) (o := .own (s.heap.objs.size + 1)) (h' := s.heap.push PySem.W.emptyDict) (t' := s.toks) (fun b u q => Heap.get?_push_of_some _ q) (Nat.le_refl _) ⟨_, e1⟩
 refine I1.laid (a := s.heap.objs.size + 1) (o := .ins C s.heap.objs.size []) (t' := s.toks) (fun b u q => Heap.get?_push_of_some _ q) (Nat.le_of_eq (Heap.size_push _ _)) ?_
 have ne : s.heap.objs.size ≠ s.heap.objs.size + 1 := Nat.ne_of_lt (Nat.lt_succ_self _)
 refine ⟨by rw [upd_ne ne, upd_same], Nat.zero_le _, ne, e2, fun _ => none, (Heap.Ns1.of_empty e3).at fun o q => Heap.get?_push_of_some _ q, fun _ => True.intro, fun y hy => absurd rfl hy⟩
theorem attr_of {prog : Program} {w : World} {env : Env} {e : Expr} {f : Str} {pos : Pos} {s : Shared} {Q : Value → Shared → Prop} (hb : attributeBase e f env (eval e env) = eval e env)
  (h : wpAny (model prog w) A (eval e env) (fun o s₁ => wpAny (model prog w) A (getAttr o f true) Q E s₁) E s) : wpAny (model prog w) A (eval (.Attribute e f pos) env) Q E s :=
 Attribute_any_ h (by rw [arm_eval_Attribute, hb])
end
noncomputable def tFld (K : PySem.W.Frag) (ta : TE) (f : Str) : TE := fun σ H Q => ta σ H fun x H1 => ∃ a C dx fs v, x = .ref a ∧ H1 a = some (.ins C dx fs) ∧ Cls K C ∧ NoAttr K C f ∧ fs.lookup f = some v ∧ Q v H1
noncomputable def tCon (K : PySem.W.Frag) (ta : TE) (f : Str) : TE := fun σ H Q => ta σ H fun x H1 => ∃ a C dx fs v u, x = .ref a ∧ H1 a = some (.ins C dx fs) ∧ Cls K C ∧ Con K C f v u ∧ fs.lookup f = none ∧ Q v H1
noncomputable def sFld (K : PySem.W.Frag) (ta tv : TE) (f : Str) : TS := fun D σ H => tv σ H fun y H1 => ta σ H1 fun x H2 => ∃ a C dx fs, x = .ref a ∧ H2 a = some (.ins C dx fs) ∧ Cls K C ∧ NoAttr K C f ∧ fs.length < 1000 ∧
 D.nx σ (upd H2 a (.ins C dx (putF f y fs)))
noncomputable def InOp (X : Cx) (op : Operator) (rd : V → V → Hp → VK → Prop) : Prop :=
 ∀ (pins : List (Addr × Obj)) (s : Shared) (σ : St) (H : Hp) (x y : V) (u v : Value) (Q : VK), Inv X pins σ H s → RelV x u → RelV y v → rd x y H Q → wpAny (model X.prog X.w) X.A (inplaceOp op u v) (EP X pins σ Q) X.xe s
noncomputable def sFldAug (K : PySem.W.Frag) (ta tv : TE) (rd : V → V → Hp → VK → Prop) (f : Str) : TS := fun D σ H => ta σ H fun x H1 => ∃ a C dx fs v, x = .ref a ∧ H1 a = some (.ins C dx fs) ∧ Cls K C ∧ NoAttr K C f ∧ fs.lookup f = some v ∧
 tv σ H1 fun y H2 => rd v y H2 fun z H3 => ∃ dx' fs', H3 a = some (.ins C dx' fs') ∧ fs'.length < 1000 ∧ D.nx σ (upd H3 a (.ins C dx' (putF f z fs')))
section
variable {X : Cx} {o e value : Expr} {f : Str} {pos pos' tpos : Pos} {ta tv : TE}
theorem pe_fld (he : PE X e ta) (hb : attributeBase e f X.env (eval e X.env) = eval e X.env) : PE X (.Attribute e f pos) (tFld X.K ta f) := by
 constructor
 intro pins s σ H Q I h
 refine attr_of hb (thn (he pins s σ H _ I h) fun u s1 ⟨x, H1, I1, rx, a, C, dx, fs, v, ex, ea, c, n, l, q⟩ => ?_)
 subst ex
 obtain rfl : u = Value.ref a := rx
 exact getattr_ok I1 ea c n l fun u' s2 I2 ru => ⟨v, H1, I2, ru, q⟩
theorem ps_fld (ha : PE X o ta) (hv : PE X value tv) (hs : swapsWith value (some (.Attribute o f pos')) pos.line X.env = pure false) : PS X (.Assign [.Attribute o f pos'] value pos) (sFld X.K ta tv f) := by
 constructor
 intro pins s σ H D I h
 refine plainObj_wpAny_Assign_Attribute (thn (hv pins s σ H _ I h) fun u s1 ⟨y, H1, I1, ry, q⟩ => thn (ha pins s1 σ H1 _ I1 q) fun ov s2 ⟨x, H2, I2, rx, a, C, dx, fs, ex, ea, c, n, l, q2⟩ => ?_) hs
 subst ex
 obtain rfl : ov = Value.ref a := rx
 exact setattr_ok I2 ea c n l ry fun s3 I3 => ⟨σ, _, I3, q2⟩
noncomputable def rAdd : V → V → Hp → VK → Prop := fun x y H Q => ∃ i j, x = .int i ∧ y = .int j ∧ Q (.int (i + j)) H
noncomputable def rSub : V → V → Hp → VK → Prop := fun x y H Q => ∃ i j, x = .int i ∧ y = .int j ∧ Q (.int (i - j)) H
end
section
variable {X : Cx} {pins : List (Addr × Obj)} {σ : St} {H : Hp} {s : Shared} {A : Around} {E : Value → Shared → Prop} {Q : Value → Shared → Prop} {c : Value} {b : Bool}
inductive TyOf (K : PySem.W.Frag) (H : Hp) : V → Value → Prop where
 | non : TyOf K H .non (.type "NoneType")
 | bl (x : Bool) : TyOf K H (.bl x) (.type "bool")
 | int (i : Int) : TyOf K H (.int i) (.type "int")
 | str (x : Str) : TyOf K H (.str x) (.type "str")
 | flt (x : UInt64) : TyOf K H (.flt x) (.type "float")
 | lst {a : Addr} {xs : List V} (e : H a = some (.lst xs)) : TyOf K H (.ref a) (.type "list")
 | frz {a : Addr} {o : Obj} {xs : List V} (e : H a = some (.frz o (.lst xs))) : TyOf K H (.ref a) (.type "list")
 | tup {a : Addr} {xs : List V} (e : H a = some (.tup xs)) : TyOf K H (.ref a) (.type "tuple")
 | dK {a : Addr} {kvs : List (Key × V)} (e : H a = some (.dK kvs)) : TyOf K H (.ref a) (.type "dict")
 | dT {a : Addr} {kvs : List (List Key × V)} (e : H a = some (.dT kvs)) : TyOf K H (.ref a) (.type "dict")
 | ins {a C dx : Addr} {fs : List (Str × V)} (e : H a = some (.ins C dx fs)) (cl : Cls K C) (ha : PySem.W.findIn K (.ref C) "__class__" = some (some (.builtin "object.__class__")))
   (hn : PySem.W.specialIn K (.builtin "object.__class__") "__get__" = some (some (.builtin "getset_descriptor.__get__"))) (htk : PySem.W.takesIn K (.builtin "object.__class__") = some true)
   (hm : PySem.W.mroIn K C (.type "object") = some true) : TyOf K H (.ref a) (.ref C)
theorem isinst_ok {x : V} {u t : Value} (I : Inv X pins σ H s) (rx : RelV x u) (ty : TyOf X.K H x t) (e : PySem.W.kitOne X.K t c = some b) (h : ∀ tk, Q (.bool b) { s with toks := tk }) :
  wpAny (model X.prog X.w) A (call (.builtin "isinstance") [u, c]) Q E s := by
 cases ty with
 | non => cases (show u = Value.none from rx); exact PySem.W.kia_one PySem.W.kitx_none I.kIn True.intro e (fun z => nomatch z) h
 | bl y => cases (show u = Value.bool y from rx); exact PySem.W.kia_one PySem.W.kitx_bool I.kIn True.intro e (fun z => nomatch z) h
 | int i => obtain ⟨t, q⟩ := (show ∃ t, u = Value.int i t from rx); cases q; exact PySem.W.kia_one PySem.W.kitx_int I.kIn True.intro e (fun z => nomatch z) h
 | str y => obtain ⟨t, q⟩ := (show ∃ t, u = Value.str y t from rx); cases q; exact PySem.W.kia_one PySem.W.kitx_str I.kIn True.intro e (fun z => nomatch z) h
 | flt y => obtain ⟨t, q⟩ := (show ∃ t, u = Value.float y t from rx); cases q; exact PySem.W.kia_one PySem.W.kitx_float I.kIn True.intro e (fun z => nomatch z) h
 | @lst a xs ea =>
  cases (show u = Value.ref a from rx)
  obtain ⟨_, _, n, _, h1⟩ := (show ObjOk X.prog X.w H s.heap a (.lst xs) from I.hok a _ ea)
  exact PySem.W.kia_one PySem.W.kitx_list I.kIn ⟨_, h1, rfl⟩ e (fun z => nomatch z) h
 | @frz a ob xs ea =>
  cases (show u = Value.ref a from rx)
  obtain ⟨_, _, _, n, _, h1⟩ := (show ObjOk X.prog X.w H s.heap a (.frz ob (.lst xs)) from I.hok a _ ea)
  exact PySem.W.kia_one PySem.W.kitx_list I.kIn ⟨_, h1, rfl⟩ e (fun z => nomatch z) h
 | @tup a xs ea =>
  cases (show u = Value.ref a from rx)
  obtain ⟨_, _, _, p⟩ := (show ObjOk X.prog X.w H s.heap a (.tup xs) from I.hok a _ ea)
  obtain ⟨o, h1, h2, _⟩ := p
  exact PySem.W.kia_one PySem.W.kitx_tuple I.kIn ⟨o, h1, h2⟩ e (fun z => nomatch z) h
 | @dK a kvs ea =>
  cases (show u = Value.ref a from rx)
  obtain ⟨_, _, vs, _, p⟩ := (show ObjOk X.prog X.w H s.heap a (.dK kvs) from I.hok a _ ea)
  obtain ⟨o, es, ep, h1, h2, _⟩ := p
  exact PySem.W.kia_one PySem.W.kitx_dict I.kIn ⟨o, h1, h2.1⟩ e (fun z => nomatch z) h
 | @dT a kvs ea =>
  cases (show u = Value.ref a from rx)
  obtain ⟨_, _, xs, _, o, es, ep, h1, h2, _⟩ := (show ObjOk X.prog X.w H s.heap a (.dT kvs) from I.hok a _ ea)
  exact PySem.W.kia_one PySem.W.kitx_dict I.kIn ⟨o, h1, h2.1⟩ e (fun z => nomatch z) h
 | @ins a C dx fs ea cl ha hn htk hm =>
  cases (show u = Value.ref a from rx)
  obtain ⟨mA, O, _⟩ := ins_get I.hok ea
  obtain ⟨od, J, _⟩ := O.look
  exact PySem.W.kia_one (PySem.W.kitx_own (cl.get _) cl.hd ha hn htk hm) I.kIn J e (fun z => nomatch z) h
end
end L2
namespace L2
open PySem PySem.Spec PyProof.Rows
structure Room (k : Nat) (A : Around) : Prop where
 dp : A.depth + 3 * k + 5 < recursionLimit
 un : A.units + 16 * k + 200 < cLine
theorem Room.mono {j k : Nat} {A : Around} (r : Room k A) (h : j ≤ k) : Room j A := ⟨by have := r.dp; omega, by have := r.un; omega⟩
theorem Room.deeper {k : Nat} {A : Around} (r : Room (k + 1) A) (env : Env) : Room k (A.deeper env) :=
 ⟨by have := r.dp; show A.depth + 1 + 3 * k + 5 < _; omega, by have := r.un; show A.units + 3 + 16 * k + 200 < _; omega⟩
theorem make_depth {A : Around} {C : Addr} {us : List Value} {kw : List (Str × Value)} : (A.under (.builtin "type.__call__" ⟨.ref C :: us, kw⟩)).depth = A.depth + 1 := by
 first | rfl | simp [Around.under, Code.weight, Code.isCreation, Code.isGuard, Code.isCaller, Code.frames, Code.isFrame, guardIds]
theorem make_units {A : Around} {C : Addr} {us : List Value} {kw : List (Str × Value)} : (A.under (.builtin "type.__call__" ⟨.ref C :: us, kw⟩)).units = A.units + 1 := by
 first | rfl | simp [Around.under, Code.cUnits, Code.frames, Code.isFrame]
theorem Room.make {k : Nat} {A : Around} (r : Room (k + 1) A) (C : Addr) (us : List Value) (kw : List (Str × Value)) : Room k (A.under (.builtin "type.__call__" ⟨.ref C :: us, kw⟩)) :=
 ⟨by have := r.dp; rw [make_depth]; omega, by have := r.un; rw [make_units]; omega⟩
theorem Room.depth {k : Nat} {A : Around} (r : Room k A) : A.depth < recursionLimit := by have := r.dp; omega
theorem Room.units {k : Nat} {A : Around} (r : Room k A) : A.units + 64 < cLine := by have := r.un; omega
theorem Room.units0 {k : Nat} {A : Around} (r : Room k A) : A.units < cLine := by have := r.un; omega
noncomputable def tNil : TA := fun _ H Q => Q [] H
noncomputable def tCons (ta : TE) (tr : TA) : TA := fun σ H Q => ta σ H fun x H1 => tr σ H1 fun xs H2 => Q (x :: xs) H2
section
variable {X : Cx} {e : Expr} {es : List Expr} {te : TE} {t : TA} {pos : Pos}
theorem pa_nil : PA X [] tNil := .mk fun _ _ _ _ H Q I h => Calls.spliced_nil ⟨[], H, I, .nil, h⟩
theorem pa_cons (ha : PE X e te) (hr : PA X es t) (hs : starEach (e :: es) X.env = (false, eval e X.env) :: starEach es X.env := by rfl) : PA X (e :: es) (tCons te t) := by
 constructor
 intro pos pins s σ H Q I h
 rw [hs]
 show wpAny _ _ (spliced ((false, eval e X.env) :: backTo pos (starEach es X.env))) _ _ s
 refine Calls.spliced_cons (thn (ha pins s σ H _ I h) fun u s1 ⟨x, H1, I1, r1, q1⟩ => ?_)
 exact thn (hr pos pins s1 σ H1 _ I1 q1) fun us s2 ⟨xs, H2, I2, r2, q2⟩ => ⟨x :: xs, H2, I2, .cons r1 r2, q2⟩
noncomputable def tTup (t : TA) : TE := fun σ H Q => t σ H fun xs H1 => xs.length ≤ sizeLine ∧ ∀ p, H1 p = none → Q (.ref p) (upd H1 p (.tup xs))
noncomputable def tLst (t : TA) : TE := fun σ H Q => t σ H fun xs H1 => xs.length ≤ sizeLine ∧ ∀ p, H1 p = none → Q (.ref p) (upd H1 p (.lst xs))
theorem pe_tup {x1} (h : PA X es t) : PE X (.Tuple es x1 pos) (tTup t) := by
 constructor
 intro pins s σ H Q I hq
 refine wpAny_Tuple_spliced (thn (h pos pins s σ H _ I hq) fun us s1 ⟨xs, H1, I1, r, z, q⟩ => ⟨by rw [← r.length]; exact z, ?_⟩)
 have hf : H1 s1.heap.objs.size = none := I1.hok.fresh (Nat.le_refl _)
 refine ⟨.ref s1.heap.objs.size, upd H1 s1.heap.objs.size (.tup xs), I1.laid (t' := s1.toks) (fun b u e => Heap.get?_push_of_some _ e) (Nat.le_refl _) ?_, rfl, q _ hf⟩
 exact ⟨z, us, r, ⟨_, Heap.get?_push_size _ rfl, rfl, _, rfl⟩⟩
theorem pe_lst (h : PA X es t) : PE X (.List es pos) (tLst t) := by
 constructor
 intro pins s σ H Q I hq
 refine wpAny_List_spliced (thn (h pos pins s σ H _ I hq) fun us s1 ⟨xs, H1, I1, r, z, q⟩ => ⟨by rw [← r.length]; exact z, ?_⟩)
 have hf : H1 s1.heap.objs.size = none := I1.hok.fresh (Nat.le_refl _)
 refine ⟨.ref s1.heap.objs.size, upd H1 s1.heap.objs.size (.lst xs), I1.laid (t' := s1.toks) (fun b u e => Heap.get?_push_of_some _ e) (Nat.le_refl _) ?_, rfl, q _ hf⟩
 exact ⟨z, us, 0, r, Heap.get?_push_size _ rfl⟩
end
noncomputable abbrev Sp := List V → Hp → VK → XK → Prop
noncomputable abbrev CXT := List Env → Hp → Shared → XK → Value → Shared → Prop
structure Env0 (P : Program) (w : World) (K : PySem.W.Frag) (mg : Str → Option Value) (base : Heap) (A : Around) (outer : List Env) (s : Shared) (H : Hp) : Prop where
 frames : A.frames = some outer
 mod : Mod K mg base
 bs : ∀ b o, base.get? b = some o → s.heap.get? b = some o ∧ H b = none
 bsz : base.objs.size ≤ s.heap.objs.size
 funs : s.heap.FunFrames base outer
 frf : ∀ b ∈ frs outer, H b = none
 hok : HOk P w H s.heap
 bare : AllBare s.gens
noncomputable def CE (outer : List Env) (P : Program) (w : World) (H : Hp) (s : Shared) (Q : VK) (u : Value) (s' : Shared) : Prop :=
 ∃ v H', s'.os = s.os ∧ AllBare s'.gens ∧ Un (frs outer) [] H H' s.heap s'.heap ∧ HOk P w H' s'.heap ∧ RelV v u ∧ Q v H'
noncomputable def CR (CX : CXT) (outer : List Env) (P : Program) (w : World) (H : Hp) (s : Shared) (Q : VK) (E : XK) (r : Result) (s' : Shared) : Prop :=
 match r with
 | .ok (.ret u) => CE outer P w H s Q u s'
 | .ok _ => False
 | .error e => CX outer H s E e s'
structure FnOk (P : Program) (w : World) (K : PySem.W.Frag) (mg : Str → Option Value) (base : Heap) (CX : CXT) (c : Bool) (k : Nat) (f : Addr) (fd : FuncData) (ps : List Str) (sp : Sp) : Prop where
 len : ∀ vs H Q E, sp vs H Q E → vs.length = ps.length
 run : ∀ (A : Around) (outer : List Env) (s : Shared) (H : Hp) (args : Args) (us : List Value) (vs : List V) (Q : VK) (E : XK) (hx : Option (Addr × Obj)), (c = true → A.handled = none) → HdOk hx A → HxOk hx H → Room k A → Env0 P w K mg base A outer s H → BindsTo s fd args (ps.zip us) → Vals vs us → sp vs H Q E →
  codeAny (model P w) A (.call (.ref f) args) (CR CX outer P w H s Q E) s
theorem Env0.make {P : Program} {w : World} {K : PySem.W.Frag} {mg : Str → Option Value} {base : Heap} {A : Around} {outer : List Env} {s : Shared} {H : Hp} (e : Env0 P w K mg base A outer s H) (C : Addr) (us : List Value) (kw : List (Str × Value)) :
  Env0 P w K mg base (A.under (.builtin "type.__call__" ⟨.ref C :: us, kw⟩)) outer s H := ⟨by first | exact e.frames | (simpa [Around.under, Code.envs, Code.isFrame, pushEnvs] using e.frames), e.mod, e.bs, e.bsz, e.funs, e.frf, e.hok, e.bare⟩
section
variable {X : Cx} {pins : List (Addr × Obj)} {σ : St} {H : Hp} {s s' : Shared}
theorem Inv.env0 (I : Inv X pins σ H s) : Env0 X.prog X.w X.K X.mg X.base X.A X.stack s H :=
 ⟨I.ok.frames, I.ok.mod, I.bs, Nat.le_trans I.ok.bsz I.sz, I.stack, I.stkFree, I.hok, I.bare⟩
theorem Inv.after {Q : VK} {u : Value} (I : Inv X pins σ H s) (h : CE X.stack X.prog X.w H s Q u s') : EP X pins σ Q u s' := by
 obtain ⟨v, H', os, bare, un, hok, r, q⟩ := h
 obtain ⟨hh, g, d, t, os'⟩ := s'
 obtain rfl : os' = s.os := os
 exact ⟨v, H', I.call (h' := hh) (g' := g) (d' := d) (t' := t) (ch := []) un hok bare (fun b z => absurd z (by simp)), r, q⟩
end
noncomputable def tCall (sp : Sp) (dvs : List V) (E : XK) (t : TA) : TE := fun σ H Q => t σ H fun vs H1 => sp (vs ++ dvs) H1 Q E
noncomputable def tMeth (C : Addr) (m : Str) (sp : Sp) (dvs : List V) (E : XK) (ta : TE) (t : TA) : TE := fun σ H Q => ta σ H fun x H1 => ∃ a dx fs, x = .ref a ∧ H1 a = some (.ins C dx fs) ∧ fs.lookup m = none ∧
 t σ H1 fun vs H2 => sp (x :: (vs ++ dvs)) H2 Q E
noncomputable def tMake (C : Addr) (sp : Sp) (dvs : List V) (E : XK) (t : TA) : TE := fun σ H Q => t σ H fun vs H1 => ∀ x dx, H1 x = none → H1 dx = none → dx ≠ x →
 sp (.ref x :: (vs ++ dvs)) (upd (upd H1 dx (.own x)) x (.ins C dx [])) (fun v H2 => v = .non ∧ Q (.ref x) H2) E
noncomputable def Binds (K : PySem.W.Frag) (fd : FuncData) (ps : List Str) (ds : List Value) : Prop :=
 ∀ (s : Shared) (us : List Value), K.In s.heap → (us ++ ds).length = ps.length → BindsTo s fd ⟨us, []⟩ (ps.zip (us ++ ds))
theorem Binds.all {K : PySem.W.Frag} {fd : FuncData} {ps : List Str} (h : ∀ us : List Value, us.length = ps.length → bindArgs fd ⟨us, []⟩ = pure (ps.zip us)) : Binds K fd ps [] := fun s us _ hl => by
 rw [List.append_nil] at hl ⊢
 exact .of_eq (h us hl)
noncomputable def Passes (CX : CXT) (X : Cx) (E : XK) : Prop := ∀ (pins : List (Addr × Obj)) (σ : St) (H : Hp) (s : Shared) (e : Value) (s' : Shared), Inv X pins σ H s → CX X.stack H s E e s' → X.xe e s'
section
variable {X : Cx} {CX : CXT} {c : Bool} {k : Nat} {f C : Addr} {fd : FuncData} {ps : List Str} {sp : Sp} {dvs : List V} {ds : List Value} {E : XK} {x m : Str} {p pos apos : Pos} {e o : Expr} {es : List Expr} {ta : TE} {t : TA}
theorem run_fn {pins : List (Addr × Obj)} {σ : St} {H : Hp} {s : Shared} {Q : VK} {us : List Value} {vs : List V} (F : FnOk X.prog X.w X.K X.mg X.base CX c k f fd ps sp) (hca : c = true → X.calm = true) (hr : Room k X.A) (hb : Binds X.K fd ps ds) (hd : Vals dvs ds) (hx : Passes CX X E)
  (I : Inv X pins σ H s) (r : Vals vs us) (h : sp (vs ++ dvs) H Q E) : wpAny (model X.prog X.w) X.A (call (.ref f) us) (EP X pins σ Q) X.xe s := by
 have r2 : Vals (vs ++ dvs) (us ++ ds) := r.append hd
 have hl : (us ++ ds).length = ps.length := by rw [← r2.length]; exact F.len _ _ _ _ h
 refine wpAny_call (codeAny_mono (F.run X.A X.stack s H ⟨us, []⟩ (us ++ ds) (vs ++ dvs) Q E X.hx (fun z => I.ok.hd (hca z)) I.ok.hnd I.hxs hr I.env0 (hb s us I.kIn hl) r2 h) fun r s' hq => ?_)
 cases r with
 | error e => exact hx pins σ H s e s' I hq
 | ok fl =>
  cases fl with
  | ret u => exact I.after hq
  | next => exact False.elim hq
  | brk => exact False.elim hq
  | cont => exact False.elim hq
theorem pe_call (F : FnOk X.prog X.w X.K X.mg X.base CX c k f fd ps sp) (hca : c = true → X.calm = true) (hr : Room k X.A) (hg : Gl X x) (hm : X.mg x = some (.ref f)) (hk : PySem.W.keepIn X.K (.ref f) = true) (hb : Binds X.K fd ps ds) (hd : Vals dvs ds) (hx : Passes CX X E)
  (ha : PA X (e :: es) t) (hdb : (x == ("__debug__" : Str)) = false := by decide) (he : starEach (e :: es) X.env = (false, eval e X.env) :: starEach es X.env := by rfl) (hpl : (backTo pos (starEach es X.env)).any (·.1) = false := by rfl) :
  PE X (.Call (.Name x p) (e :: es) [] pos) (tCall sp dvs E t) := by
 constructor
 intro pins s σ H Q I h
 refine wpAny_Call_Name_kw (ld_glob I hg hm ?_ hdb)
 refine PySem.W.callWith_K (h₀ := X.base) I.ok.mod.kin hk (thn (ha pos pins s σ H _ I h) fun us s1 ⟨vs, H1, I1, r, q⟩ => ⟨I1.kIn, ?_⟩) he hpl
 exact run_fn F hca hr hb hd hx I1 r q
theorem pe_meth {pl : Sem Bool} (he : PE X o ta) (cl : Cls X.K C) (hm : Meth X.K C m f) (F : FnOk X.prog X.w X.K X.mg X.base CX c k f fd ps sp) (hca : c = true → X.calm = true) (hr : Room k X.A) (hb : Binds X.K fd ps ds) (hd : Vals dvs ds) (hx : Passes CX X E) (ha : PA X (e :: es) t)
  (hst : starEach (e :: es) X.env = (false, eval e X.env) :: starEach es X.env := by rfl) (hpl : (backTo pos (starEach es X.env)).any (·.1) = false := by rfl)
  (ht : eval (.Call (.Attribute o m apos) (e :: es) [] pos) X.env = (do
   let ov ← eval o X.env
   standAt apos.atName
   let (f, first) ← holding [ov] (getMethod ov m pl)
   callWith pos f first (backTo pos (starEach (e :: es) X.env)) (backToKw pos (keywordEach [] X.env))) := by rfl) :
  PE X (.Call (.Attribute o m apos) (e :: es) [] pos) (tMeth C m sp dvs E ta t) := by
 constructor
 intro pins s σ H Q I h
 refine PySem.W.methodCall_KW (pl := pl) (thn (he pins s σ H _ I h) fun u s1 ⟨x, H1, I1, rx, a, dx, fs, ex, ea, l, q⟩ => ?_) ht
 subst ex
 obtain rfl : u = Value.ref a := rx
 refine getmeth_ok I1 ea cl hm l ?_
 refine PySem.W.callWith_K (first := [.ref a]) (h₀ := X.base) I.ok.mod.kin hm.kp (thn (ha pos pins s1 σ H1 _ I1 q) fun us s2 ⟨vs, H2, I2, r, q2⟩ => ⟨I2.kIn, ?_⟩) hst hpl
 exact run_fn (us := .ref a :: us) (vs := .ref a :: vs) F hca hr hb hd hx I2 (.cons rfl r) q2
theorem pe_meth0 {pl : Sem Bool} (he : PE X o ta) (cl : Cls X.K C) (hm : Meth X.K C m f) (F : FnOk X.prog X.w X.K X.mg X.base CX c k f fd ps sp) (hca : c = true → X.calm = true) (hr : Room k X.A) (hb : Binds X.K fd ps ds) (hd : Vals dvs ds) (hx : Passes CX X E)
  (ht : eval (.Call (.Attribute o m apos) [] [] pos) X.env = (do
   let ov ← eval o X.env
   standAt apos.atName
   let (f, first) ← holding [ov] (getMethod ov m pl)
   callWith pos f first (backTo pos (starEach [] X.env)) (backToKw pos (keywordEach [] X.env))) := by rfl) :
  PE X (.Call (.Attribute o m apos) [] [] pos) (tMeth C m sp dvs E ta tNil) := by
 constructor
 intro pins s σ H Q I h
 refine PySem.W.methodCall_KW (pl := pl) (thn (he pins s σ H _ I h) fun u s1 ⟨x, H1, I1, rx, a, dx, fs, ex, ea, l, q⟩ => ?_) ht
 subst ex
 obtain rfl : u = Value.ref a := rx
 refine getmeth_ok I1 ea cl hm l ?_
 exact PySem.W.callWith_K0 (first := [.ref a]) I1.kIn hm.kp (run_fn (us := [.ref a]) (vs := [.ref a]) F hca hr hb hd hx I1 (.cons rfl .nil) q)
structure Mk (K : PySem.W.Frag) (C f : Addr) : Prop where
 makes : PySem.W.makesIn K C = true
 init : PySem.W.findIn K (.ref C) "__init__" = some (some (.ref f))
 fn : PySem.W.isFn K (.ref f) = true
 kp : PySem.W.keepIn K (.ref C) = true
theorem run_make {pins : List (Addr × Obj)} {σ : St} {H : Hp} {s : Shared} {Q : VK} {us : List Value} {vs : List V} (M : Mk X.K C f) (F : FnOk X.prog X.w X.K X.mg X.base CX c k f fd ps sp) (hca : c = true → X.calm = true) (hr : Room (k + 1) X.A) (hb : Binds X.K fd ps ds) (hd : Vals dvs ds)
  (hx : Passes CX X E) (I : Inv X pins σ H s) (r : Vals vs us)
  (h : ∀ x dx, H x = none → H dx = none → dx ≠ x → sp (.ref x :: (vs ++ dvs)) (upd (upd H dx (.own x)) x (.ins C dx [])) (fun v H2 => v = .non ∧ Q (.ref x) H2) E) :
  wpAny (model X.prog X.w) X.A (call (.ref C) us) (EP X pins σ Q) X.xe s := by
 have hq := h (s.heap.objs.size + 1) s.heap.objs.size (I.hok.fresh (Nat.le_succ _)) (I.hok.fresh (Nat.le_refl _)) (Nat.ne_of_lt (Nat.lt_succ_self _))
 have I2 := Inv.made (C := C) I
 have r2 : Vals (V.ref (s.heap.objs.size + 1) :: (vs ++ dvs)) (Value.ref (s.heap.objs.size + 1) :: (us ++ ds)) := .cons rfl (r.append hd)
 have hl : (Value.ref (s.heap.objs.size + 1) :: us ++ ds).length = ps.length := by
  have e := r2.length
  rw [F.len _ _ _ _ hq] at e
  exact e.symm
 refine wpAny_call (make_map (f := f) I.kIn M.makes M.init (beq_iff_eq.mp M.fn) (codeAny_mono (F.run _ X.stack _ _ ⟨Value.ref (s.heap.objs.size + 1) :: us, []⟩ (Value.ref (s.heap.objs.size + 1) :: (us ++ ds)) _ _ E X.hx (fun z => I.ok.hd (hca z)) (I.ok.hnd.mono rfl) I2.hxs (hr.make C us [])
  (I2.env0.make C us []) (hb _ (Value.ref (s.heap.objs.size + 1) :: us) I2.kIn hl) r2 hq) fun r s' hq' => ?_))
 cases r with
 | error e => exact hx pins σ _ _ e s' I2 hq'
 | ok fl =>
  cases fl with
  | ret u =>
   obtain ⟨v, H', I3, rv, ev, q3⟩ := I2.after hq'
   subst ev
   exact ⟨rv, ⟨V.ref (s.heap.objs.size + 1), H', I3, rfl, q3⟩⟩
  | next => exact False.elim hq'
  | brk => exact False.elim hq'
  | cont => exact False.elim hq'
theorem pe_make (M : Mk X.K C f) (F : FnOk X.prog X.w X.K X.mg X.base CX c k f fd ps sp) (hca : c = true → X.calm = true) (hr : Room (k + 1) X.A) (hg : Gl X x) (hm : X.mg x = some (.ref C)) (hb : Binds X.K fd ps ds) (hd : Vals dvs ds) (hx : Passes CX X E)
  (ha : PA X (e :: es) t) (hdb : (x == ("__debug__" : Str)) = false := by decide) (he : starEach (e :: es) X.env = (false, eval e X.env) :: starEach es X.env := by rfl) (hpl : (backTo pos (starEach es X.env)).any (·.1) = false := by rfl) :
  PE X (.Call (.Name x p) (e :: es) [] pos) (tMake C sp dvs E t) := by
 constructor
 intro pins s σ H Q I h
 refine wpAny_Call_Name_kw (ld_glob I hg hm ?_ hdb)
 refine PySem.W.callWith_K (h₀ := X.base) I.ok.mod.kin M.kp (thn (ha pos pins s σ H _ I h) fun us s1 ⟨vs, H1, I1, r, q⟩ => ⟨I1.kIn, ?_⟩) he hpl
 exact run_make M F hca hr hb hd hx I1 r q
end
noncomputable def PK (X : Cx) (kws : List Keyword) (t : TA) : Prop :=
 ∀ (pos : Pos) (pins : List (Addr × Obj)) (s : Shared) (σ : St) (H : Hp) (Q : List V → Hp → Prop), Inv X pins σ H s → t σ H Q → wpAny (model X.prog X.w) X.A (evalAll ((backToKw pos (keywordEach kws X.env)).map (·.2))) (AP X pins σ Q) X.xe s
section
variable {X : Cx} {CX : CXT} {c : Bool} {k : Nat} {f C : Addr} {fd : FuncData} {ps ks : List Str} {sp : Sp} {E : XK} {x m : Str} {p pos apos kpos : Pos} {e o : Expr} {es : List Expr} {kws : List Keyword} {te ta : TE} {t tk : TA} {nm : Option Str}
structure KBinds (K : PySem.W.Frag) (fd : FuncData) (ps ks : List Str) (g : List Value → List Value → List Value) (gV : List V → List V → List V) : Prop where
 to : ∀ (s : Shared) (us ws : List Value), K.In s.heap → (g us ws).length = ps.length → BindsTo s fd ⟨us, ks.zip ws⟩ (ps.zip (g us ws))
 rel : ∀ {vs : List V} {us : List Value} {zs : List V} {ws : List Value}, Vals vs us → Vals zs ws → Vals (gV vs zs) (g us ws)
noncomputable def tCallK (sp : Sp) (gV : List V → List V → List V) (E : XK) (t tk : TA) : TE := fun σ H Q => t σ H fun vs H1 => tk σ H1 fun zs H2 => sp (gV vs zs) H2 Q E
variable {g : List Value → List Value → List Value} {gV : List V → List V → List V}
end
structure FnScope (N P : List Str) (sc : Scope) : Prop where
 kind : sc.kind = .function
 co : sc.isCoroutine = false
 gen : sc.isGenerator = false
 nd : N.Nodup
 pre : N.take P.length = P
 par : ∀ x ∈ P, sc.names.lookup x = some .local ∨ sc.names.lookup x = some .cell
 nofree : ∀ y ∈ sc.names, y.2 ≠ .free
theorem bindL_out {kindOf : Str → Option NameKind} {x : Str} : ∀ {binds : List (Str × Value)} {m : Str → Option Value}, (∀ v, (x, v) ∉ binds) → bindL kindOf binds m x = m x
 | [], _, _ => rfl
 | (n, v) :: r, m, h => by
  unfold bindL
  rw [bindL_out fun w hw => h w (List.mem_cons_of_mem _ hw)]
  split
  ·have : x ≠ n := by rintro rfl; exact h v List.mem_cons_self
   simp [this]
  ·rfl
theorem bindC_out {kindOf : Str → Option NameKind} {x : Str} : ∀ {binds : List (Str × Value)} {m : Str → Option Value}, (∀ v, (x, v) ∉ binds) → bindC kindOf binds m x = m x
 | [], _, _ => rfl
 | (n, v) :: r, m, h => by
  unfold bindC
  rw [bindC_out fun w hw => h w (List.mem_cons_of_mem _ hw)]
  split
  ·rfl
  ·have : x ≠ n := by rintro rfl; exact h v List.mem_cons_self
   simp [this]
theorem bindL_get {kindOf : Str → Option NameKind} {x : Str} {v : Value} : ∀ {P : List Str} {vs : List Value} {i : Nat} {m : Str → Option Value}, P.Nodup → P[i]? = some x → vs[i]? = some v → kindOf x = some .local →
  bindL kindOf (P.zip vs) m x = some v
 | [], _, _, _, _, h, _, _ => by simp at h
 | _ :: _, [], _, _, _, _, h, _ => by simp at h
 | p :: P, w :: vs, 0, m, nd, h1, h2, hk => by
  simp at h1 h2; subst h1; subst h2
  show bindL kindOf ((p, w) :: P.zip vs) m p = _
  unfold bindL
  rw [bindL_out fun v hv => (List.nodup_cons.mp nd).1 (List.of_mem_zip hv).1, if_pos hk]
  simp
 | p :: P, w :: vs, i + 1, m, nd, h1, h2, hk => by
  show bindL kindOf ((p, w) :: P.zip vs) m x = _
  unfold bindL
  exact bindL_get (i := i) (List.nodup_cons.mp nd).2 (by simpa using h1) (by simpa using h2) hk
theorem bindC_get {kindOf : Str → Option NameKind} {x : Str} {v : Value} : ∀ {P : List Str} {vs : List Value} {i : Nat} {m : Str → Option Value}, P.Nodup → P[i]? = some x → vs[i]? = some v → kindOf x ≠ some .local →
  bindC kindOf (P.zip vs) m x = some v
 | [], _, _, _, _, h, _, _ => by simp at h
 | _ :: _, [], _, _, _, _, h, _ => by simp at h
 | p :: P, w :: vs, 0, m, nd, h1, h2, hk => by
  simp at h1 h2; subst h1; subst h2
  show bindC kindOf ((p, w) :: P.zip vs) m p = _
  unfold bindC
  rw [bindC_out fun v hv => (List.nodup_cons.mp nd).1 (List.of_mem_zip hv).1, if_neg hk]
  simp
 | p :: P, w :: vs, i + 1, m, nd, h1, h2, hk => by
  show bindC kindOf ((p, w) :: P.zip vs) m x = _
  unfold bindC
  exact bindC_get (i := i) (List.nodup_cons.mp nd).2 (by simpa using h1) (by simpa using h2) hk
noncomputable def start (N : List Str) (vs : List V) : St := vs.map some ++ List.replicate (N.length - vs.length) none
noncomputable def cxOf (CX : CXT) (P : Program) (w : World) (K : PySem.W.Frag) (mg : Str → Option Value) (base : Heap) (c : Bool) (hx : Option (Addr × Obj)) (N : List Str) (qual : Str) (scope : Scope) (f : Addr) (cd : Value) (A : Around) (outer : List Env) (s : Shared) (H : Hp) (E : XK) : Cx where
 prog := P
 w := w
 K := K
 mg := mg
 base := base
 A := A.deeper (envOfC qual scope s.heap.objs.size f cd)
 N := N
 s₀ := s
 H₀ := H
 env := envOfC qual scope s.heap.objs.size f cd
 outer := outer
 stack := envOfC qual scope s.heap.objs.size f cd :: outer
 ex := []
 calm := c
 hx := hx
 fn := fun _ => true
 pn := []
 xe := fun e s' => wpAny (model P w) (A.deeper (envOfC qual scope s.heap.objs.size f cd)) (leaving (envOfC qual scope s.heap.objs.size f cd) e) (fun _ s'' => CX outer H s E e s'') (fun e' s'' => CX outer H s E e' s'') s'
theorem cell_has {sc : Scope} {n : Nat} {x : Str} (h : sc.names.lookup x = some .cell) : ∃ c, (cellsFrom n sc.names []).lookup x = some c := by
 have q := PySem.W.cellsFrom_some sc.names n [] (.inl h)
 exact Option.isSome_iff_exists.mp q
theorem inv_start {CX : CXT} {P : Program} {w : World} {K : PySem.W.Frag} {mg : Str → Option Value} {base : Heap} {c : Bool} {hx : Option (Addr × Obj)} {N ps : List Str} {qual : Str} {scope : Scope} {f : Addr} {cd : Value} {A : Around} {outer : List Env} {s s1 : Shared} {H : Hp} {E : XK} {us : List Value} {vs : List V}
  (S : FnScope N ps scope) (hca : c = true → A.handled = none) (hd : HdOk hx A) (hh : HxOk hx H) (e0 : Env0 P w K mg base A outer s H) (hl : vs.length = ps.length) (r : Vals vs us)
  (x : InCallC s s.heap.objs.size (bindL (envOfC qual scope s.heap.objs.size f cd).kindOf (ps.zip us) fun _ => none) (cellsFrom (s.heap.objs.size + 1) scope.names []) (bindC (envOfC qual scope s.heap.objs.size f cd).kindOf (ps.zip us) fun _ => none) s1) :
  Inv (cxOf CX P w K mg base c hx N qual scope f cd A outer s H E) [] (start N vs) H s1 := by
 have hpl : ps.length ≤ N.length := by have := congrArg List.length S.pre; rw [List.length_take] at this; omega
 obtain ⟨h1, tk, rfl, hk⟩ := x.done
 have noA : ∀ b : Addr, b ∉ (cxOf CX P w K mg base c hx N qual scope f cd A outer s H E).ex := fun b z => absurd (show b ∈ ([] : List Addr) from z) (by simp)
 refine ⟨⟨e0.mod, S.kind, rfl, rfl, Nat.le_refl _, fun y z c h1 h2 => ?_, fun y hy => ?_, fun y c _ h => ?_, fun z => hca z, Around.frames_deeper e0.frames, .inr ⟨rfl, rfl⟩, fun b z => absurd z (noA b), e0.bs, e0.bsz, fun b _ _ => noA b, fun b z => absurd z (noA b), e0.funs, e0.frf, hd.mono rfl⟩,
  rfl, e0.bare, Un.kept hk, ⟨_, x.toInCall.ns, fun i y v h1 h2 h3 => ?_⟩, fun y c h => ⟨_, x.cell y c h⟩, e0.hok.fresh (Nat.le_refl _), fun y c h => ?_, fun p hp => absurd (show p ∈ ([] : List (Addr × Obj)) from hp) (by simp), e0.hok.kept hk, ?_, hh⟩
 ·exact name_of_addr x.apart (PySem.mem_of_lookup h1) (PySem.mem_of_lookup h2)
 ·have hy : scope.names.lookup y = some .cell ∨ scope.names.lookup y = some .free := hy
  rcases hy with hy | hy
  ·exact cell_has hy
  ·exact absurd rfl (S.nofree _ (PySem.mem_of_lookup hy))
 ·exact Nat.le_of_lt (x.above y c (PySem.mem_of_lookup h))
 ·have hi : i < vs.length := by
   unfold start at h2
   by_cases hi : i < vs.length
   ·exact hi
   ·rw [List.getElem?_append_right (by simpa using hi)] at h2
    rw [List.getElem?_replicate] at h2
    split at h2 <;> cases h2
  have ha : vs[i]? = some v := by
   unfold start at h2
   rw [List.getElem?_append_left (by simpa using hi), List.getElem?_map] at h2
   cases e : vs[i]? with
   | none => rw [e] at h2; cases h2
   | some a => rw [e] at h2; cases h2; rfl
  obtain ⟨u, hu, rv⟩ := r.get ha
  have hp : ps[i]? = some y := by
   rw [← S.pre, List.getElem?_take_of_lt (by omega)]; exact h1
  have ndP : ps.Nodup := by rw [← S.pre]; exact S.nd.sublist (List.take_sublist _ _)
  refine ⟨u, rv, ?_⟩
  rcases S.par y (List.mem_of_getElem? hp) with k | k
  ·exact .inl ⟨k, bindL_get ndP hp hu k⟩
  ·obtain ⟨c, e⟩ := cell_has (n := s.heap.objs.size + 1) k
   refine .inr ⟨.inl k, c, e, ?_⟩
   have q := x.cell y c e
   rw [bindC_get ndP hp hu (by show scope.names.lookup y ≠ _; rw [k]; decide)] at q
   exact q
 ·exact e0.hok.fresh (Nat.le_of_lt (x.above y c (PySem.mem_of_lookup h)))
 ·unfold start
  show _ = N.length
  rw [List.length_append, List.length_map, List.length_replicate]
  omega
theorem fn_of {CX : CXT} {P : Program} {w : World} {K : PySem.W.Frag} {mg : Str → Option Value} {base : Heap} {c : Bool} {k : Nat} {f : Addr} {name qual : Str} {params : Arguments} {body : List Stmt} {scope : Scope} {dV kV doc pm cdv ct oc : Value} {an od : Option Addr}
  {osl : Array (Option Value)} {N ps : List Str} {sp : Sp} (lk : K.lookup f = some ⟨oc, od, .func (PySem.W.fnOf name qual params body scope dV kV doc pm an cdv ct), osl⟩) (hcd : PySem.W.codeIn K cdv qual = true) (S : FnScope N ps scope)
  (len : ∀ vs H Q E, sp vs H Q E → vs.length = ps.length)
  (hbody : ∀ (A : Around) (outer : List Env) (s : Shared) (H : Hp) (vs : List V) (Q : VK) (E : XK) (hx : Option (Addr × Obj)), (c = true → hx = none) → HxOk hx H → Room k (A.deeper (envOfC qual scope s.heap.objs.size f cdv)) → sp vs H Q E →
   ∃ t, PSs (cxOf CX P w K mg base c hx N qual scope f cdv A outer s H E) body t ∧ t { nx := fun _ H' => Q .non H', rt := Q } (start N vs) H) :
  FnOk P w K mg base CX c (k + 1) f (PySem.W.fnOf name qual params body scope dV kV doc pm an cdv ct) ps sp := by
 refine ⟨len, fun A outer s H args us vs Q E hx0 hca hd0 hh0 hr e0 hb r hsp => ?_⟩
 obtain ⟨hx, hcx, hd, hh⟩ : ∃ hx : Option (Addr × Obj), (c = true → hx = none) ∧ HdOk hx A ∧ HxOk hx H := by
  cases c with
  | true => exact ⟨none, fun _ => rfl, .inl (hca rfl), (fun _ _ z => nomatch z)⟩
  | false => exact ⟨hx0, (fun z => nomatch z), hd0, hh0⟩
 have hl := len _ _ _ _ hsp
 have KX : K.In s.heap := e0.mod.kin.keeps fun b o e => (e0.bs b o e).1
 have lim : s.heap.NoLimit := e0.mod.nolimit.keeps fun b o e => (e0.bs b o e).1
 have hkind : ∀ y ∈ ps.zip us, scope.names.lookup y.1 = some .local ∨ (scope.names.lookup y.1 = some .cell ∧ ((cellsFrom (s.heap.objs.size + 1) scope.names []).lookup y.1).isSome = true) := fun ⟨n, v⟩ hy => by
  rcases S.par n (List.of_mem_zip hy).1 with q | q
  ·exact .inl q
  ·exact .inr ⟨q, PySem.W.cellsFrom_some _ _ _ (.inl q)⟩
 refine codeAny_call_function hr.depth (KX _ _ lk) rfl S.co S.gen rfl (PySem.W.codeRec_of KX hcd) (hb _ _ _ _ ?_)
 refine wpAny_newFunctionEnv_cells S.kind hkind fun env he s1 x => ?_
 subst he
 refine ⟨lim.keeps x.toInCall.keep, codeAny_func ?_⟩
 obtain ⟨t, ht, hq⟩ := hbody A outer s H vs Q E hx hcx hh (hr.deeper _) hsp
 have I : Inv (cxOf CX P w K mg base c hx N qual scope f cdv A outer s H E) [] (start N vs) H s1 := inv_start S hca hd hh e0 hl r x
 refine wpAny_mono (ht [] s1 (start N vs) H _ I hq) (fun fl s' hs => ?_) fun e s' hs => hs
 have fin : ∀ {σ' : St} {H' : Hp} {v : V} {u : Value}, Inv (cxOf CX P w K mg base c hx N qual scope f cdv A outer s H E) [] σ' H' s' → RelV v u → Q v H' → CE outer P w H s Q u s' :=
  fun {σ' H' v u} J rv q => ⟨v, H', J.os, J.bare, J.base, J.hok, rv, q⟩
 cases fl with
 | ret u =>
  obtain ⟨v, σ', H', J, rv, q⟩ := hs
  exact fin J rv q
 | next =>
  obtain ⟨σ', H', J, q⟩ := hs
  exact fin (v := V.non) (u := Value.none) J rfl q
 | brk =>
  obtain ⟨_, _, _, q⟩ := hs
  exact False.elim q
 | cont =>
  obtain ⟨_, _, _, q⟩ := hs
  exact False.elim q
end L2
namespace L2
open PySem PySem.Spec PyProof.Rows
section
variable {X : Cx} {x : Str} {p pos : Pos} {e : Expr} {es : List Expr} {t : TA} {id T : String} {r : List V → Hp → VK → Prop}
noncomputable def tCB (r : List V → Hp → VK → Prop) (t : TA) : TE := fun σ H Q => t σ H fun vs H1 => r vs H1 Q
theorem pe_callB (hc : CallR X (.builtin id) r) (hg : Gl X x) (hm : X.mg x = none) (hv : bootBuiltins x = some (.builtin id)) (ha : PA X (e :: es) t) (hn : x ≠ "__name__" := by decide) (hdb : (x == ("__debug__" : Str)) = false := by decide)
  (he : starEach (e :: es) X.env = (false, eval e X.env) :: starEach es X.env := by rfl) (hpl : (backTo pos (starEach es X.env)).any (·.1) = false := by rfl) : PE X (.Call (.Name x p) (e :: es) [] pos) (tCB r t) := by
 constructor
 intro pins s σ H Q I h
 refine wpAny_Call_Name_kw (ld_blt I hg hm hv ?_ hn hdb)
 exact PyProof.Rows.callWith_builtin1 (thn (ha pos pins s σ H _ I h) fun us s1 ⟨vs, H1, I1, r1, q1⟩ => hc pins s1 σ H1 vs us Q I1 r1 q1) he hpl
theorem pe_callTy (hc : CallR X (.type T) r) (hg : Gl X x) (hm : X.mg x = none) (hv : bootBuiltins x = some (.type T)) (ha : PA X (e :: es) t) (hn : x ≠ "__name__" := by decide) (hdb : (x == ("__debug__" : Str)) = false := by decide)
  (he : starEach (e :: es) X.env = (false, eval e X.env) :: starEach es X.env := by rfl) (hpl : (backTo pos (starEach es X.env)).any (·.1) = false := by rfl) : PE X (.Call (.Name x p) (e :: es) [] pos) (tCB r t) := by
 constructor
 intro pins s σ H Q I h
 refine wpAny_Call_Name_kw (ld_blt I hg hm hv ?_ hn hdb)
 exact PyProof.Rows.callWith_type1 (thn (ha pos pins s σ H _ I h) fun us s1 ⟨vs, H1, I1, r1, q1⟩ => hc pins s1 σ H1 vs us Q I1 r1 q1) he hpl
end
end L2
namespace HT
open PySem PyProof.Rows
noncomputable def lexLt : List Int → List Int → Bool
 | [], [] => false
 | [], _ :: _ => true
 | _ :: _, [] => false
 | x :: xs, y :: ys => if x = y then lexLt xs ys else decide (x < y)
section
open PySem.SeqAt
open PySem.AutoSeq1 (wpAny_loadPart')
open PySem.MeetsSeq PySem.MeetsSeq2 PySem.MeetsSeq3
end
section
variable {prog : Program} {w : World} {A : Around} {E : Value → Shared → Prop} {s : Shared}
noncomputable def sIx (n d : Nat) : Option Int → Nat
 | none => d
 | some v => if v < 0 then (v + (n : Int)).toNat else min v.toNat n
end
end HT
namespace L2
open PySem PySem.Spec PyProof.Rows
noncomputable abbrev TO := St → Hp → (Option Int → Hp → Prop) → Prop
structure PO (X : Cx) (e : Option Expr) (t : TO) : Prop where
 run : ∀ (pins : List (Addr × Obj)) (s : Shared) (σ : St) (H : Hp) (Q : Option Int → Hp → Prop), Inv X pins σ H s → t σ H Q →
  wpAny (model X.prog X.w) X.A (evalPart e X.env) (fun u s' => ∃ o H', Inv X pins σ H' s' ∧ IsPart u o ∧ Q o H') X.xe s
instance {X : Cx} {e : Option Expr} {t : TO} : CoeFun (PO X e t) (fun _ => ∀ (pins : List (Addr × Obj)) (s : Shared) (σ : St) (H : Hp) (Q : Option Int → Hp → Prop), Inv X pins σ H s → t σ H Q →
  wpAny (model X.prog X.w) X.A (evalPart e X.env) (fun u s' => ∃ o H', Inv X pins σ H' s' ∧ IsPart u o ∧ Q o H') X.xe s) := ⟨fun h => h.run⟩
noncomputable def tNoPart : TO := fun _ H Q => Q none H
noncomputable def tPart (t : TE) : TO := fun σ H Q => t σ H fun x H1 => ∃ i, x = .int i ∧ Q (some i) H1
section
variable {X : Cx} {e : Expr} {te : TE} {lo hi : Option Expr} {tl th : TO} {pos p2 : Pos}
theorem po_none : PO X none tNoPart := by
 constructor
 intro pins s σ H Q I h
 rw [evalPart_none]
 exact wpAny_pure ⟨none, H, I, .none, h⟩
theorem po_some (h : PE X e te) : PO X (some e) (tPart te) := by
 constructor
 intro pins s σ H Q I hw
 rw [evalPart_some]
 refine thn (h pins s σ H _ I hw) fun u s1 ⟨x, H1, I1, r1, q1⟩ => ?_
 obtain ⟨i, rfl, q⟩ := q1
 obtain ⟨t, rfl⟩ := r1
 exact ⟨some i, H1, I1, .int i t, q⟩
noncomputable def SlR (X : Cx) (r : V → Option Int → Option Int → Hp → VK → Prop) : Prop :=
 ∀ (pins : List (Addr × Obj)) (s : Shared) (σ : St) (H : Hp) (x : V) (v vl vu : Value) (lo hi : Option Int) (sl : Addr) (Q : VK), Inv X pins σ H s → RelV x v → s.heap.IsSliceOf sl vl vu .none → IsPart vl lo → IsPart vu hi → r x lo hi H Q →
  ∃ T id, typeLookup (.type T) "__getitem__" = pure (some (.builtin id)) ∧ s.TypeIs v T ∧ wpAny (model X.prog X.w) X.A (getItem v (.ref sl)) (EP X pins σ Q) X.xe s
noncomputable def tSl (r : V → Option Int → Option Int → Hp → VK → Prop) (te : TE) (tl th : TO) : TE := fun σ H Q => te σ H fun x H1 => tl σ H1 fun l H2 => th σ H2 fun u H3 => r x l u H3 Q
theorem pe_slice {r : V → Option Int → Option Int → Hp → VK → Prop} (hr : SlR X r) (he : PE X e te) (hl : PO X lo tl) (hu : PO X hi th) : PE X (.Subscript e (.Slice lo hi none p2) pos) (tSl r te tl th) := by
 constructor
 intro pins s σ H Q I h
 refine Subscript_ (thn (he pins s σ H _ I h) fun v s1 ⟨x, H1, I1, r1, q1⟩ => ?_)
 refine wpAny_Slice (thn (hl pins s1 σ H1 _ I1 q1) fun vl s2 ⟨l, H2, I2, pl, q2⟩ => thn (hu pins s2 σ H2 _ I2 q2) fun vu s3 ⟨u, H3, I3, pu, q3⟩ => ?_)
 rw [evalPart_none]
 refine wpAny_pure ?_
 have I4 : Inv X pins σ H3 { s3 with heap := s3.heap.push { cls := .type "slice", data := .fields #[vl, vu, .none] } } := I3.kept (t' := s3.toks) fun b ob q => Heap.get?_push_of_some _ q
 obtain ⟨T, id, hT, ht, hg⟩ := hr pins { s3 with heap := s3.heap.push { cls := .type "slice", data := .fields #[vl, vu, .none] } } σ H3 x v vl vu l u s3.heap.objs.size Q I4 r1 (Heap.IsSliceOf.new ..) pl pu q3
 show wpAny (model X.prog X.w) X.A (subscriptTail e (.Slice lo hi none p2) v (.ref s3.heap.objs.size)) (EP X pins σ Q) X.xe { s3 with heap := s3.heap.push { cls := .type "slice", data := .fields #[vl, vu, .none] } }
 exact tail_any (ops := [.ref s3.heap.objs.size, v]) ht hT hg (by with_unfolding_all rfl)
noncomputable def cutV (xs : List V) (lo hi : Option Int) : List V := (xs.drop (HT.sIx xs.length 0 lo)).take (HT.sIx xs.length xs.length hi - HT.sIx xs.length 0 lo)
theorem cutV_length (xs : List V) (lo hi : Option Int) : (cutV xs lo hi).length ≤ xs.length := by
 unfold cutV
 rw [List.length_take, List.length_drop]
 omega
noncomputable def rSlT (K : PySem.W.Frag) : V → Option Int → Option Int → Hp → VK → Prop := fun x lo hi H Q => ∃ a xs, x = .ref a ∧ SqT K H a xs ∧
 ¬ (HT.sIx xs.length 0 lo = 0 ∧ HT.sIx xs.length xs.length hi = xs.length) ∧ ∀ p, H p = none → Q (.ref p) (upd H p (.tup (cutV xs lo hi)))
noncomputable def rLtT (K : PySem.W.Frag) : R2 := fun x y H Q => ∃ a b ns ms, x = .ref a ∧ y = .ref b ∧ SqT K H a (ns.map V.int) ∧ SqT K H b (ms.map V.int) ∧ Q (.bl (HT.lexLt ns ms)) H
noncomputable def rCatT (K : PySem.W.Frag) : R2 := fun x y H Q => ∃ a b xs ys, x = .ref a ∧ y = .ref b ∧ SqT K H a xs ∧ SqT K H b ys ∧ xs ≠ [] ∧ xs.length + ys.length ≤ sizeLine ∧
 (ys = [] → Q (.ref a) H) ∧ (ys ≠ [] → ∀ p, H p = none → Q (.ref p) (upd H p (.tup (xs ++ ys))))
end
end L2
namespace L2
open PySem PySem.Spec PyProof.Rows
noncomputable def ixN (n : Nat) (i : Int) : Option Nat := if 0 ≤ i then (if i < n then some i.toNat else none) else if -(n : Int) ≤ i then some (i + n).toNat else none
noncomputable def atI {α : Type} (xs : List α) (i : Int) : Option α := (ixN xs.length i).bind fun j => xs[j]?
theorem ixN_seq {n : Nat} {i : Int} {j : Nat} (h : ixN n i = some j) : seqIndex? i n = some j ∧ j < n ∧ -(n : Int) ≤ i ∧ i < n := by
 unfold ixN at h
 by_cases h0 : 0 ≤ i
 ·rw [if_pos h0] at h
  by_cases h1 : i < n
  ·rw [if_pos h1] at h
   have e : i.toNat = j := Option.some.inj h
   exact ⟨by rw [seqIndex_of h0 h1, e], by omega, by omega, h1⟩
  ·rw [if_neg h1] at h; cases h
 ·rw [if_neg h0] at h
  by_cases h1 : -(n : Int) ≤ i
  ·rw [if_pos h1] at h
   have e : (i + n).toNat = j := Option.some.inj h
   exact ⟨by rw [seqIndex_neg (by omega) h1, e], by omega, h1, by omega⟩
  ·rw [if_neg h1] at h; cases h
theorem atI_get {α : Type} {xs : List α} {i : Int} {v : α} (h : atI xs i = some v) : ∃ j, seqIndex? i xs.length = some j ∧ xs[j]? = some v ∧ j < xs.length ∧ -(xs.length : Int) ≤ i ∧ i < xs.length := by
 unfold atI at h
 cases e : ixN xs.length i with
 | none => rw [e] at h; cases h
 | some j =>
  rw [e] at h
  obtain ⟨h1, h2, h3, h4⟩ := ixN_seq e
  exact ⟨j, h1, h, h2, h3, h4⟩
theorem atI_nat {α : Type} {xs : List α} {j : Nat} {v : α} (h : xs[j]? = some v) : atI xs (j : Int) = some v := by
 have hj : j < xs.length := (List.getElem?_eq_some_iff.mp h).1
 have e : ixN xs.length (j : Int) = some j := by
  unfold ixN
  rw [if_pos (by omega), if_pos (by omega)]; simp
 unfold atI; rw [e]; exact h
noncomputable def PlainIx (b : Expr) : Prop := ∀ o i, subscripted b false o i = operate [o, i] (getItem o i)
noncomputable def IxR (X : Cx) (r : R2) : Prop :=
 ∀ (value slice : Expr) (pins : List (Addr × Obj)) (s : Shared) (σ : St) (H : Hp) (x y : V) (v u : Value) (Q : VK), Inv X pins σ H s → RelV x v → RelV y u → r x y H Q →
  subscripted slice false v u = operate [v, u] (getItem v u) → wpAny (model X.prog X.w) X.A (subscriptTail value slice v u) (EP X pins σ Q) X.xe s
noncomputable def MtR (X : Cx) (id : String) (r : V → List V → Hp → VK → Prop) : Prop :=
 ∀ (pins : List (Addr × Obj)) (s : Shared) (σ : St) (H : Hp) (x : V) (xs : List V) (v : Value) (us : List Value) (Q : VK), Inv X pins σ H s → RelV x v → Vals xs us → r x xs H Q →
  wpAny (model X.prog X.w) X.A (call (.builtin id) (v :: us)) (EP X pins σ Q) X.xe s
section
variable {X : Cx} {a b : Expr} {ta tb : TE} {pos : Pos}
theorem pe_ix {r : R2} (hr : IxR X r) (ha : PE X a ta) (hb : PE X b tb) (hs : PlainIx b) : PE X (.Subscript a b pos) (tOp r ta tb) := by
 constructor
 intro pins s σ H Q I h
 exact Subscript_ (binT ha hb I h fun v u s2 x y H2 I2 rx ry q => hr a b pins s2 σ H2 x y v u Q I2 rx ry q (hs _ _))
noncomputable def rIxL (K : PySem.W.Frag) : R2 := fun x y H Q => ∃ p xs i v, x = .ref p ∧ y = .int i ∧ SqL K H p xs ∧ atI xs i = some v ∧ Q v H
noncomputable def rIxT (K : PySem.W.Frag) : R2 := fun x y H Q => ∃ p xs i v, x = .ref p ∧ y = .int i ∧ SqT K H p xs ∧ atI xs i = some v ∧ Q v H
noncomputable def rIxS : R2 := fun x y H Q => ∃ z i c, x = .str z ∧ y = .int i ∧ z.length ≤ sizeLine ∧ atI z.cps.toList i = some c ∧ Q (.str ⟨#[c]⟩) H
theorem ix_list : IxR X (rIxL X.K) := by
 intro value slice pins s σ H x y v u Q I rx ry h hs
 obtain ⟨p, xs, i, z, rfl, rfl, hq, he, q⟩ := h
 cases rx
 obtain ⟨t, rfl⟩ := ry
 obtain ⟨its, r, pl, hz⟩ := I.list hq
 obtain ⟨j, h1, h2, h3, h4, h5⟩ := atI_get he
 obtain ⟨w, ew, rw'⟩ := r.get h2
 have hl := r.length
 have hn := line63
 have fin : EP X pins σ Q w s := ⟨z, H, I, rw', q⟩
 by_cases h0 : 0 ≤ i
 ·have hj : i.toNat = j := by
   rw [seqIndex_of h0 h5] at h1
   exact Option.some.inj h1
  exact item_listR pl.isList h0 (by omega) (by rw [hj]; simpa using ew) fin hs
 ·have hj : (i + (its.toArray.size : Int)).toNat = j := by
   rw [seqIndex_neg (by omega) h4] at h1
   rw [List.size_toArray, ← hl]
   exact Option.some.inj h1
  exact subscriptTail_builtinR (x := w) pl.isList.typeIs slot_list_getitem.lookup
   (wpAny_getItem_list_neg (Q := fun r s' => r = w ∧ EP X pins σ Q r s') pl.isList (by omega) (by rw [List.size_toArray] <;> omega) (by omega) (by rw [hj]; simpa using ew) ⟨rfl, fin⟩) hs
theorem ix_tup : IxR X (rIxT X.K) := by
 intro value slice pins s σ H x y v u Q I rx ry h hs
 obtain ⟨p, xs, i, z, rfl, rfl, hq, he, q⟩ := h
 cases rx
 obtain ⟨t, rfl⟩ := ry
 obtain ⟨its, r, pl, hz⟩ := I.tuple hq
 obtain ⟨j, h1, h2, h3, h4, h5⟩ := atI_get he
 obtain ⟨w, ew, rw'⟩ := r.get h2
 have hl := r.length
 have hn := line63
 have fin : EP X pins σ Q w s := ⟨z, H, I, rw', q⟩
 exact subscriptTail_builtinR (x := w) pl.typeIs slot_tuple_getitem.lookup
  (getItem_tuple (j := j) (Q := fun r s' => r = w ∧ EP X pins σ Q r s') pl (by omega) (by omega) (by rw [List.size_toArray, ← hl]; exact h1) (by simpa using ew) ⟨rfl, fin⟩) hs
noncomputable def rIx (K : PySem.W.Frag) : R2 := fun x y H Q => rIxL K x y H Q ∨ rIxT K x y H Q ∨ rIxS x y H Q
theorem mapSeq_set (its : List Value) (n j : Nat) (u : Value) : Obj.mapSeq (·.setIfInBounds j u) { cls := .type "list", data := .seq its.toArray n } = { cls := .type "list", data := .seq (its.set j u).toArray n } := by
 simp [Obj.mapSeq]
theorem Inv.lst {pins : List (Addr × Obj)} {σ : St} {H : Hp} {s : Shared} {p : Addr} {xs : List V} (I : Inv X pins σ H s) (h : H p = some (.lst xs)) :
  ∃ (its : List Value) (n : Nat), Vals xs its ∧ s.heap.get? p = some { cls := .type "list", data := .seq its.toArray n } ∧ xs.length ≤ sizeLine := by
 obtain ⟨z, its, n, r, e⟩ := I.hok p _ h
 exact ⟨its, n, r, e, z⟩
theorem Inv.lstUpd {pins : List (Addr × Obj)} {σ : St} {H : Hp} {s : Shared} {p : Addr} {xs ys : List V} {its its' : List Value} {n n' : Nat} {f : Obj → Obj} (I : Inv X pins σ H s) (h : H p = some (.lst xs))
  (ho : s.heap.get? p = some { cls := .type "list", data := .seq its.toArray n }) (hf : f { cls := .type "list", data := .seq its.toArray n } = { cls := .type "list", data := .seq its'.toArray n' }) (r : Vals ys its') (hz : ys.length ≤ sizeLine) (t : Nat) :
  Inv X pins σ (upd H p (.lst ys)) { s with heap := s.heap.update p f, toks := t } := by
 have e : (s.heap.update p f).get? p = some { cls := .type "list", data := .seq its'.toArray n' } := by
  rw [Heap.get?_update_self f ho (by rw [hf] <;> rfl), hf]
 refine I.write (x := p) (e := p) (by rw [h]; trivial) (.inl rfl) (fun b u hb q => (Heap.get?_update_other _ _ (Ne.symm hb)).trans q) ⟨_, e⟩ ?_
 exact ⟨hz, its', n', r, e⟩
noncomputable def rSetL : V → V → V → Hp → (Hp → Prop) → Prop := fun o i v H Q => ∃ p xs k j, o = .ref p ∧ i = .int k ∧ H p = some (.lst xs) ∧ ixN xs.length k = some j ∧ Q (upd H p (.lst (xs.set j v)))
theorem set_list : PSet X rSetL := by
 intro pins s σ H o i v ov iv u Q I ro ri rv h
 obtain ⟨p, xs, k, j, rfl, rfl, hp, hj, q⟩ := h
 cases ro
 obtain ⟨t, rfl⟩ := ri
 obtain ⟨its, n, r, ho, hz⟩ := I.lst hp
 obtain ⟨h1, h2, h3, h4⟩ := ixN_seq hj
 have hl := r.length
 have hn := line63
 have I' : Inv X pins σ (upd H p (.lst (xs.set j v))) { s with heap := s.heap.update p (Obj.mapSeq (·.setIfInBounds j u)) } :=
  I.lstUpd hp ho (mapSeq_set its n j u) (r.set rv j) (by rw [List.length_set]; exact hz) s.toks
 by_cases h0 : 0 ≤ k
 ·have hk : k.toNat = j := by
   rw [seqIndex_of h0 h4] at h1
   exact Option.some.inj h1
  exact PySem.W.ki_setAt ho h0 (by omega) (by rw [List.size_toArray, ← hl]; exact h4) (by rw [hk]; exact ⟨_, I', q⟩)
 ·have hk : (k + (its.toArray.size : Int)).toNat = j := by
   rw [seqIndex_neg (by omega) h3] at h1
   rw [List.size_toArray, ← hl]
   exact Option.some.inj h1
  exact PySem.W.ki_setBack ho (by omega) (by rw [List.size_toArray, ← hl]; exact h3) (by omega) (by rw [hk]; exact ⟨_, I', q⟩)
theorem slice_bounds (lo hi : Option Int) (n : Nat) : (sliceBounds lo hi none n).1 = ((HT.sIx n 0 lo : Nat) : Int) ∧ (sliceBounds lo hi none n).2.1 = ((HT.sIx n n hi : Nat) : Int) ∧ (sliceBounds lo hi none n).2.2 = 1 := by
 refine ⟨?_, ?_, rfl⟩
 ·cases lo with
  | none => simp [sliceBounds, HT.sIx]
  | some i =>
   simp only [sliceBounds, HT.sIx, Option.getD_none, show (1 : Int) > 0 by decide, if_true]
   by_cases h : i < 0
   ·simp only [h, if_true] <;> omega
   ·simp only [h, if_false] <;> omega
 ·cases hi with
  | none => simp [sliceBounds, HT.sIx]
  | some i =>
   simp only [sliceBounds, HT.sIx, Option.getD_none, show (1 : Int) > 0 by decide, if_true]
   by_cases h : i < 0
   ·simp only [h, if_true] <;> omega
   ·simp only [h, if_false] <;> omega
theorem slicePick_cut (its : List Value) (lo hi : Option Int) : slicePick its.toArray lo hi none = ((its.drop (HT.sIx its.length 0 lo)).take (HT.sIx its.length its.length hi - HT.sIx its.length 0 lo)).toArray := by
 obtain ⟨h1, h2, h3⟩ := slice_bounds lo hi its.toArray.size
 unfold slicePick
 rw [h1, h2, h3]
 simp only [sliceRange_one, pick_run, List.size_toArray] <;> rfl
noncomputable def rSlL (K : PySem.W.Frag) : V → Option Int → Option Int → Hp → VK → Prop := fun x lo hi H Q => ∃ a xs, x = .ref a ∧ SqL K H a xs ∧ ∀ p, H p = none → Q (.ref p) (upd H p (.lst (cutV xs lo hi)))
theorem sl_list : SlR X (rSlL X.K) := by
 intro pins s σ H x v vl vu lo hi sl Q I rx hs pl pu h
 obtain ⟨a, xs, rfl, hx, q⟩ := h
 cases rx
 obtain ⟨its, r, ht, hz⟩ := I.list hx
 have hlen := r.length
 refine ⟨"list", _, slot_list_getitem.lookup, ht.isList.typeIs, ?_⟩
 refine wpAny_getItem_list_slice ht.isList hs pl pu .none (by simp) ?_ (by rw [List.size_toArray] <;> omega)
 rw [slicePick_cut, ← hlen]
 refine ⟨.ref s.heap.objs.size, _, I.laid (t' := s.toks) (o := .lst (cutV xs lo hi)) (fun b ob q => Heap.get?_push_of_some _ q) (Nat.le_refl _) ?_, rfl, q _ (I.hok.fresh (Nat.le_refl _))⟩
 exact ⟨Nat.le_trans (cutV_length xs lo hi) hz, _, 0, (r.drop (HT.sIx xs.length 0 lo)).take (HT.sIx xs.length xs.length hi - HT.sIx xs.length 0 lo), Heap.get?_push_size _ rfl⟩
noncomputable def flatV : V → Bool
 | .non => true
 | .bl _ => true
 | .int _ => true
 | .str _ => true
 | _ => false
noncomputable def eqV : V → V → Bool
 | .non, .non => true
 | .bl a, .bl b => a == b
 | .bl a, .int b => (if a then 1 else 0) == b
 | .int a, .bl b => a == (if b then 1 else 0)
 | .int a, .int b => a == b
 | .str a, .str b => a == b
 | _, _ => false
theorem eqAt_V {A : Around} {s : Shared} {y x : V} {u v : Value} (ry : RelV y u) (rx : RelV x v) (fy : flatV y = true) (fx : flatV x = true) : SeqAt.EqAt A s u v (eqV y x) := by
 cases y with
 | non =>
  cases ry
  cases x with
  | non => cases rx; exact SeqAt.EqAt.same _
  | bl b => cases rx; exact SeqAt.EqAt.none_bool b
  | int b => obtain ⟨t, rfl⟩ := rx; exact SeqAt.EqAt.none_int b t
  | str b => obtain ⟨t, rfl⟩ := rx; exact SeqAt.EqAt.none_str b t
  | _ => exact absurd (show false = true from fx) Bool.false_ne_true
 | bl a =>
  cases ry
  cases x with
  | non => cases rx; exact SeqAt.EqAt.bool_none a
  | bl b => cases rx; exact SeqAt.EqAt.bool_bool a b
  | int b => obtain ⟨t, rfl⟩ := rx; exact SeqAt.EqAt.bool_int a b t
  | str b => obtain ⟨t, rfl⟩ := rx; exact SeqAt.EqAt.bool_str a b t
  | _ => exact absurd (show false = true from fx) Bool.false_ne_true
 | int a =>
  obtain ⟨t', rfl⟩ := ry
  cases x with
  | non => cases rx; exact SeqAt.EqAt.int_none a t'
  | bl b => cases rx; exact SeqAt.EqAt.int_bool a t' b
  | int b => obtain ⟨t, rfl⟩ := rx; exact SeqAt.EqAt.int_int a t' b t
  | str b => obtain ⟨t, rfl⟩ := rx; exact SeqAt.EqAt.int_str a t' b t
  | _ => exact absurd (show false = true from fx) Bool.false_ne_true
 | str a =>
  obtain ⟨t', rfl⟩ := ry
  cases x with
  | non => cases rx; exact SeqAt.EqAt.str_none a t'
  | bl b => cases rx; exact SeqAt.EqAt.str_bool a t' b
  | int b => obtain ⟨t, rfl⟩ := rx; exact SeqAt.EqAt.str_int a t' b t
  | str b => obtain ⟨t, rfl⟩ := rx; exact SeqAt.EqAt.str_str a t' b t
  | _ => exact absurd (show false = true from fx) Bool.false_ne_true
 | _ => exact absurd (show false = true from fy) Bool.false_ne_true
noncomputable def eqU (x : V) (u : Value) : Bool := match u with
 | .none => eqV .non x
 | .bool b => eqV (.bl b) x
 | .int i _ => eqV (.int i) x
 | .str z _ => eqV (.str z) x
 | _ => false
theorem eqU_of {x y : V} {u : Value} (r : RelV y u) (f : flatV y = true) : eqU x u = eqV y x := by
 cases y with
 | non => cases r; rfl
 | bl b => cases r; rfl
 | int i => obtain ⟨t, rfl⟩ := r; rfl
 | str z => obtain ⟨t, rfl⟩ := r; rfl
 | _ => exact absurd (show false = true from f) Bool.false_ne_true
theorem any_eqU {x : V} : ∀ {xs : List V} {us : List Value}, Vals xs us → xs.all flatV = true → us.any (eqU x) = xs.any fun y => eqV y x
 | _, _, .nil, _ => rfl
 | y :: xs, u :: us, .cons r t, f => by
  rw [List.all_cons, Bool.and_eq_true] at f
  rw [List.any_cons, List.any_cons, eqU_of r f.1, any_eqU t f.2]
theorem mem_eqAt {A : Around} {s : Shared} {x : V} {v : Value} (rx : RelV x v) (fx : flatV x = true) : ∀ {xs : List V} {us : List Value}, Vals xs us → xs.all flatV = true → ∀ u ∈ us, SeqAt.EqAt A s u v (eqU x u)
 | _, _, .nil, _ => fun u hu => by cases hu
 | y :: xs, u :: us, .cons r t, f => fun u' hu => by
  rw [List.all_cons, Bool.and_eq_true] at f
  rcases List.mem_cons.mp hu with rfl | hu
  ·rw [eqU_of r f.1]; exact eqAt_V r rx f.1 fx
  ·exact mem_eqAt rx fx t f.2 u' hu
noncomputable def inV (x : V) (xs : List V) : Bool := xs.any fun y => eqV y x
noncomputable def rIn (K : PySem.W.Frag) (neg : Bool) : R2 := fun x y H Q => ∃ p xs, y = .ref p ∧ (SqL K H p xs ∨ SqT K H p xs) ∧ flatV x = true ∧ xs.all flatV = true ∧ Q (.bl (if neg then !inV x xs else inV x xs)) H
theorem op_in_seq : OpR X (compareOp .In) (rIn X.K false) := by
 intro pins s σ H x y v u Q I rx ry h
 obtain ⟨p, xs, rfl, hq, fx, fs, q⟩ := h
 cases ry
 rcases hq with hq | hq
 ·obtain ⟨its, r, pl, hz⟩ := I.list hq
  refine SeqAt.in_listAt (eqU x) pl.isList (fun w hw => mem_eqAt rx fx r fs w (by simpa using hw)) ⟨.bl _, H, I, rfl, ?_⟩
  rw [show its.toArray.any (eqU x) = its.any (eqU x) by simp, any_eqU r fs]
  exact q
 ·obtain ⟨its, r, pl, hz⟩ := I.tuple hq
  refine SeqAt.in_tupleAt (eqU x) pl (fun w hw => mem_eqAt rx fx r fs w (by simpa using hw)) ⟨.bl _, H, I, rfl, ?_⟩
  rw [show its.toArray.any (eqU x) = its.any (eqU x) by simp, any_eqU r fs]
  exact q
theorem call_len_seq : CallR X (.builtin "len") (fun xs H Q => ∃ p ys, xs = [.ref p] ∧ (SqL X.K H p ys ∨ SqT X.K H p ys) ∧ Q (.int ys.length) H) := by
 intro pins s σ H xs us Q I r h
 obtain ⟨p, ys, rfl, hq, q⟩ := h
 obtain ⟨u, rfl, rx⟩ := vals1 r
 cases rx
 have hn := line63
 rcases hq with hq | hq
 ·obtain ⟨its, r', pl, hz⟩ := I.list hq
  have hlen := r'.length
  exact Calls.call_len_list pl.isList (by simp only [List.size_toArray] <;> omega) ⟨.int ys.length, H, I.tok _, ⟨s.toks + 1, by rw [List.size_toArray, hlen]⟩, q⟩
 ·obtain ⟨its, r', pl, hz⟩ := I.tuple hq
  have hlen := r'.length
  exact len_tuple pl (by simp only [List.size_toArray] <;> omega) ⟨.int ys.length, H, I.tok _, ⟨s.toks + 1, by rw [List.size_toArray, hlen]⟩, q⟩
theorem call_list_of : CallR X (.type "list") (fun xs H Q => ∃ p ys, xs = [.ref p] ∧ (SqL X.K H p ys ∨ SqT X.K H p ys) ∧ ∀ l, H l = none → Q (.ref l) (upd H l (.lst ys))) := by
 intro pins s σ H xs us Q I r h
 obtain ⟨p, ys, rfl, hq, q⟩ := h
 obtain ⟨u, rfl, rx⟩ := vals1 r
 cases rx
 have fin : ∀ (its : List Value), Vals ys its → ys.length ≤ sizeLine → ∀ (h' : Heap) (c' : Nat), (∀ b o', s.heap.get? b = some o' → h'.get? b = some o') →
   h'.get? s.heap.objs.size = some { cls := .type "list", dict := none, data := .seq its.toArray c', slots := #[] } → EP X pins σ Q (.ref s.heap.objs.size) { s with heap := h' } := fun its r' hz h' c' kp e =>
  ⟨.ref s.heap.objs.size, _, I.laid (t' := s.toks) kp (Nat.le_refl _) (show ObjOk X.prog X.w _ h' _ (.lst ys) from ⟨hz, its, c', r', e⟩), rfl, q _ (I.hok.fresh (Nat.le_refl _))⟩
 rcases hq with hq | hq
 ·obtain ⟨its, r', pl, hz⟩ := I.list hq
  have hlen := r'.length
  obtain ⟨o, ho, hc, n, hd⟩ := pl.isList
  exact call_list_seq p (.inl rfl) ho hc hd (fun h' c' kp e => fin its r' hz h' c' kp e) (by simp only [List.size_toArray] <;> omega)
 ·obtain ⟨its, r', pl, hz⟩ := I.tuple hq
  have hlen := r'.length
  obtain ⟨o, ho, hc, n, hd⟩ := pl
  exact call_list_seq p (.inr rfl) ho hc hd (fun h' c' kp e => fin its r' hz h' c' kp e) (by simp only [List.size_toArray] <;> omega)
theorem call_tuple_of : CallR X (.type "tuple") (fun xs H Q => ∃ p ys, xs = [.ref p] ∧ ((SqL X.K H p ys ∧ ∀ l, H l = none → Q (.ref l) (upd H l (.tup ys))) ∨ (SqT X.K H p ys ∧ Q (.ref p) H))) := by
 intro pins s σ H xs us Q I r h
 obtain ⟨p, ys, rfl, h⟩ := h
 obtain ⟨u, rfl, rx⟩ := vals1 r
 cases rx
 rcases h with ⟨hq, q⟩ | ⟨hq, q⟩
 ·obtain ⟨its, r', pl, hz⟩ := I.list hq
  have hlen := r'.length
  refine call_tuple_list pl.isList (fun h' kp => ?_) (by simp only [List.size_toArray] <;> omega)
  have I1 : Inv X pins σ H { s with heap := h' } := I.kept (t' := s.toks) kp
  have I2 : Inv X pins σ (upd H h'.objs.size (.tup ys)) { s with heap := h'.push { cls := .type "tuple", data := .seq its.toArray } } :=
   I1.laid (t' := s.toks) (fun b o e => Heap.get?_push_of_some _ e) (Nat.le_refl _) (show ObjOk X.prog X.w _ _ _ (.tup ys) from ⟨hz, its, r', IsTup.new _ _⟩)
  exact ⟨.ref h'.objs.size, _, I2, rfl, q _ (I1.hok.fresh (Nat.le_refl _))⟩
 ·obtain ⟨its, r', pl, hz⟩ := I.tuple hq
  exact call_tuple_same pl ⟨.ref p, H, I, rfl, q⟩
noncomputable def tyV (K : PySem.W.Frag) (T : String) (x : V) (H : Hp) : Prop := match x with
 | .str _ => T = "str"
 | .int _ => T = "int"
 | .ref p => (T = "list" ∧ ∃ xs, SqL K H p xs) ∨ (T = "tuple" ∧ ∃ o, K.lookup p = some o ∧ o.cls = .type "tuple" ∧ o.dict = none) ∨
   (T = "dict" ∧ ((∃ kvs, H p = some (.dK kvs)) ∨ ∃ kvs, H p = some (.dT kvs))) ∨ (T = "set" ∧ ∃ S n, H p = some (.set S n))
 | _ => False
theorem tyV_is {pins : List (Addr × Obj)} {σ : St} {H : Hp} {s : Shared} {T : String} {x : V} {v : Value} (I : Inv X pins σ H s) (r : RelV x v) (ty : tyV X.K T x H) :
  s.TypeIs v T ∧ ∀ a, v = .ref a → ∃ ob, s.heap.get? a = some ob ∧ ob.dict = none := by
 cases x with
 | str z =>
  obtain ⟨t, rfl⟩ := r
  cases (show T = "str" from ty)
  exact ⟨typeIs_str s z t, fun _ e => nomatch e⟩
 | int i =>
  obtain ⟨t, rfl⟩ := r
  cases (show T = "int" from ty)
  exact ⟨typeIs_int s i t, fun _ e => nomatch e⟩
 | ref p =>
  cases r
  rcases ty with ⟨rfl, xs, hq⟩ | ⟨rfl, o, hk, hc, hd⟩ | ⟨rfl, hk⟩ | ⟨rfl, S, n, hk⟩
  ·obtain ⟨its, _, pl, _⟩ := I.list hq
   refine ⟨pl.isList.typeIs, fun a e => ?_⟩
   cases e
   obtain ⟨o, n, e, c, hd, _⟩ := pl
   exact ⟨o, e, hd⟩
  ·refine ⟨⟨o, I.kIn p o hk, hc⟩, fun a e => ?_⟩
   cases e
   exact ⟨o, I.kIn _ o hk, hd⟩
  ·have z : ∃ o, s.heap.get? p = some o ∧ o.ExactDict := by
    rcases hk with ⟨kvs, hk⟩ | ⟨kvs, hk⟩
    ·obtain ⟨_, _, _, _, o, _, _, e, ex, _⟩ := I.hok p _ hk
     exact ⟨o, e, ex⟩
    ·obtain ⟨_, _, _, _, o, _, _, e, ex, _⟩ := I.hok p _ hk
     exact ⟨o, e, ex⟩
   obtain ⟨o, e, ex⟩ := z
   refine ⟨⟨o, e, ex.1⟩, fun a e2 => ?_⟩
   cases e2
   exact ⟨o, e, ex.2.1⟩
  ·obtain ⟨o, _, _, _, e, ex, _⟩ := I.hok p _ hk
   refine ⟨⟨o, e, ex.1⟩, fun a e2 => ?_⟩
   cases e2
   exact ⟨o, e, ex.2.1⟩
 | _ => exact False.elim ty
noncomputable def tBM0 (K : PySem.W.Frag) (T : String) (r : V → List V → Hp → VK → Prop) (to : TE) : TE := fun σ H Q => to σ H fun x H1 => tyV K T x H1 ∧ r x [] H1 Q
noncomputable def tBM (K : PySem.W.Frag) (T : String) (r : V → List V → Hp → VK → Prop) (to : TE) (t : TA) : TE := fun σ H Q => to σ H fun x H1 => tyV K T x H1 ∧ t σ H1 fun xs H2 => r x xs H2 Q
variable {o e : Expr} {es : List Expr} {to : TE} {t : TA} {name : Str} {apos cpos : Pos} {T id : String} {r : V → List V → Hp → VK → Prop}
theorem pe_bm (pa : PlainAttrs T) (slot : Slot T name id) (hty : typeOf (.builtin id) = pure (.type "method_descriptor")) (hm : MtR X id r) (ho : PE X o to) (ha : PA X (e :: es) t)
  (hbase : attributeBase o name X.env (eval o X.env) = eval o X.env := by rfl)
  (hfew : ((backTo cpos (starEach (e :: es) X.env)).all (fun x => !x.1) && (backToKw cpos (keywordEach [] X.env)).all (fun x => x.1.isSome)
   && decide ((e :: es).length + ([] : List Keyword).length + (if ([] : List Keyword).isEmpty then 0 else 1) < 30)) = true := by rfl)
  (hline : (apos.endLine == cpos.line) = true := by rfl) (hs : starEach (e :: es) X.env = (false, eval e X.env) :: starEach es X.env := by rfl) (hplain : (backTo cpos (starEach es X.env)).any (·.1) = false := by rfl) :
  PE X (.Call (.Attribute o name apos) (e :: es) [] cpos) (tBM X.K T r to t) := by
 constructor
 intro pins s σ H Q I h
 refine wpAny_Call_method_late hbase hfew hline rfl (thn (ho pins s σ H _ I h) fun v s1 ⟨x, H1, I1, r1, ty, q1⟩ => ?_)
 obtain ⟨h1, h2⟩ := tyV_is I1 r1 ty
 refine ⟨T, id, pa, slot, hty, h1, h2, ?_⟩
 have hA := ha cpos pins s1 σ H1 _ I1 q1
 rw [hs] at hA ⊢
 refine Calls.callWith_builtin (by show (false || (backTo cpos (starEach es X.env)).any (·.1)) = false; rw [hplain] <;> rfl) (Calls.evalArgs_plain ?_)
 exact thn hA fun us s2 ⟨vs, H2, I2, r2, q2⟩ => hm pins s2 σ H2 x vs v us Q I2 r1 r2 q2
end
end L2
namespace L2
open PySem PySem.Spec PyProof.Rows
noncomputable def MtM (X : Cx) (id : String) (r : V → List V → Hp → VK → Prop) : Prop :=
 ∀ (pins : List (Addr × Obj)) (s : Shared) (σ : St) (H : Hp) (x : V) (xs : List V) (v : Value) (us : List Value) (Q : VK), Inv X pins σ H s → RelV x v → Vals xs us → r x xs H Q →
  wpAny (model X.prog X.w) X.A (call (.builtin id) (v :: us)) (EP X pins σ Q) X.xe s
theorem Vals.one : ∀ {x : V} {us : List Value}, Vals [x] us → ∃ u, us = [u] ∧ RelV x u
 | _, _, .cons r .nil => ⟨_, rfl, r⟩
theorem Vals.eraseIdx : ∀ {xs : List V} {us : List Value} (i : Nat), Vals xs us → Vals (xs.eraseIdx i) (us.eraseIdx i)
 | _, _, _, .nil => .nil
 | _, _, 0, .cons _ t => t
 | _, _, i + 1, .cons r t => .cons r (Vals.eraseIdx i t)
theorem Vals.rep {xs : List V} {us : List Value} (h : Vals xs us) : ∀ k : Nat, Vals (List.replicate k xs).flatten (List.replicate k us).flatten
 | 0 => .nil
 | k + 1 => by
  rw [List.replicate_succ, List.replicate_succ, List.flatten_cons, List.flatten_cons]
  exact Vals.append h (Vals.rep h k)
theorem len_erase {α : Type} : ∀ (l : List α) (i : Nat), (l.eraseIdx i).length ≤ l.length
 | [], _ => Nat.le_refl _
 | _ :: _, 0 => Nat.le_succ _
 | _ :: r, i + 1 => Nat.succ_le_succ (len_erase r i)
theorem foldl_rep (its : List Value) : ∀ (k : Nat) (acc : List Value),
  List.foldl (fun x1 x2 => x1 ++ x2) acc.toArray (List.replicate k its.toArray) = (acc ++ (List.replicate k its).flatten).toArray
 | 0, acc => by simp
 | k + 1, acc => by
  have e : acc.toArray ++ its.toArray = (acc ++ its).toArray := by simp
  have e2 : (acc ++ its) ++ (List.replicate k its).flatten = acc ++ (List.replicate (k + 1) its).flatten := by
   rw [List.replicate_succ, List.flatten_cons, List.append_assoc]
  rw [← e2, ← foldl_rep its k (acc ++ its), ← e, List.replicate_succ, List.foldl_cons]
section
variable {X : Cx} {pins : List (Addr × Obj)} {σ : St} {H : Hp} {s : Shared} {l b : Addr} {xs ys zs : List V}
theorem Inv.lset {its its' : List Value} {n : Nat} {f : Array Value → Array Value} {t' : Nat} (I : Inv X pins σ H s) (hH : H l = some (.lst xs))
  (e : s.heap.get? l = some { cls := .type "list", data := .seq its.toArray n }) (hf : f its.toArray = its'.toArray) (hv : Vals ys its') (hz : ys.length ≤ sizeLine) :
  Inv X pins σ (upd H l (.lst ys)) { s with heap := s.heap.update l (Obj.mapSeq f), toks := t' } := by
 have q := PySem.IsL.update e f
 rw [hf] at q
 refine I.write (x := l) (e := l) (by rw [hH]; exact trivial) (.inl rfl) (fun b' u hb hu => (Heap.get?_update_other s.heap (Obj.mapSeq f) (Ne.symm hb)).trans hu) ⟨_, q⟩ ?_
 exact ⟨hz, its', _, hv, q⟩
theorem Inv.lnew {its : List Value} {t' : Nat} (I : Inv X pins σ H s) (hv : Vals ys its) (hz : ys.length ≤ sizeLine) :
  Inv X pins σ (upd H s.heap.objs.size (.lst ys)) { s with heap := s.heap.push { cls := .type "list", data := .seq its.toArray }, toks := t' } :=
 I.laid (fun _ _ q => Heap.get?_push_of_some _ q) (Nat.le_refl _) ⟨hz, its, 0, hv, Heap.get?_push_size _ rfl⟩
theorem Inv.fresh (I : Inv X pins σ H s) : H s.heap.objs.size = none := I.hok.fresh (Nat.le_refl _)
theorem Inv.lstM (I : Inv X pins σ H s) (hH : H l = some (.lst xs)) : xs.length ≤ sizeLine ∧ ∃ (its : List Value) (n : Nat), Vals xs its ∧ xs.length = its.length ∧ s.heap.get? l = some { cls := .type "list", data := .seq its.toArray n } := by
 obtain ⟨z, its, n, r, e⟩ := I.hok l _ hH
 exact ⟨z, its, n, r, r.length, e⟩
theorem notLongL {n : Nat} (h : n ≤ sizeLine) : Builtin.List.listTooLong n = false := by
 unfold Builtin.List.listTooLong
 exact decide_eq_false (by omega)
end
section
variable {X : Cx}
noncomputable def rAppend : V → List V → Hp → VK → Prop := fun x vs H Q => ∃ l xs y, x = .ref l ∧ vs = [y] ∧ H l = some (.lst xs) ∧ xs.length < sizeLine ∧ Q .non (upd H l (.lst (xs ++ [y])))
theorem mt_append : MtM X "list.append" rAppend := by
 intro pins s σ H x vs v us Q I rx rv h
 obtain ⟨l, xs, y, rfl, rfl, hH, hz, q⟩ := h
 cases rx
 obtain ⟨u, rfl, ru⟩ := rv.one
 obtain ⟨z, its, n, r, hl, e⟩ := I.lstM hH
 refine call_meets F.slot_list_append ⟨_, e, rfl⟩ F.entry_list_append (F.args_list_append_2 _ _) (PySem.list_append l its.toArray n u (by rw [List.size_toArray]; omega)) ⟨e, ?_⟩
 refine ⟨.non, _, I.lset (its' := its ++ [u]) hH e (by simp) (r.append (.cons ru .nil)) ?_, rfl, q⟩
 rw [List.length_append, List.length_singleton]
 omega
noncomputable def rExtend : V → List V → Hp → VK → Prop := fun x vs H Q => ∃ l b xs zs, x = .ref l ∧ vs = [.ref b] ∧ H l = some (.lst xs) ∧ H b = some (.lst zs) ∧ xs.length + zs.length ≤ sizeLine ∧ Q .non (upd H l (.lst (xs ++ zs)))
theorem mt_extend : MtM X "list.extend" rExtend := by
 intro pins s σ H x vs v us Q I rx rv h
 obtain ⟨l, b, xs, zs, rfl, rfl, hH, hB, hz, q⟩ := h
 cases rx
 obtain ⟨u, rfl, ru⟩ := rv.one
 cases ru
 obtain ⟨z, its, n, r, hl, e⟩ := I.lstM hH
 obtain ⟨z2, its2, n2, r2, hl2, e2⟩ := I.lstM hB
 have hsz : its.toArray.size + its2.toArray.size ≤ sizeLine := by rw [List.size_toArray, List.size_toArray]; omega
 have hlong : ¬ (!its.toArray.isEmpty && Builtin.List.listTooLong (its.toArray.size + its2.toArray.size)) = true := by
  rw [notLongL hsz, Bool.and_false]
  exact Bool.false_ne_true
 refine call_meets F.slot_list_extend ⟨_, e, rfl⟩ F.entry_list_extend (F.args_list_extend_2 _ _)
  (AutoSeq1.list_extend_list_list_0 l its.toArray n b its2.toArray n2 hlong (by rw [List.size_toArray]; omega) (by omega)) ⟨e, e2, ?_⟩
 refine ⟨.non, _, I.lset (its' := its ++ its2) hH e (by simp) (r.append r2) ?_, rfl, q⟩
 rw [List.length_append]
 omega
noncomputable def rPop : V → List V → Hp → VK → Prop := fun x vs H Q => ∃ l xs y, x = .ref l ∧ vs = [] ∧ H l = some (.lst xs) ∧ xs[xs.length - 1]? = some y ∧ Q y (upd H l (.lst xs.dropLast))
noncomputable def rPopAt : V → List V → Hp → VK → Prop := fun x vs H Q => ∃ l xs i k y, x = .ref l ∧ vs = [.int i] ∧ H l = some (.lst xs) ∧ -(2 ^ 63) ≤ i ∧ i < 2 ^ 63 ∧ seqIndex? i xs.length = some k ∧ xs[k]? = some y ∧ Q y (upd H l (.lst (xs.eraseIdx k)))
theorem mt_popAt : MtM X "list.pop" rPopAt := by
 intro pins s σ H x vs v us Q I rx rv h
 obtain ⟨l, xs, i, k, y, rfl, rfl, hH, h1, h2, hk, hy, q⟩ := h
 cases rx
 obtain ⟨u, rfl, ru⟩ := rv.one
 obtain ⟨t, rfl⟩ := ru
 obtain ⟨z, its, n, r, hl, e⟩ := I.lstM hH
 obtain ⟨w, hw, rw'⟩ := r.get hy
 refine call_meets F.slot_list_pop ⟨_, e, rfl⟩ F.entry_list_pop (F.args_list_pop_2 _ _)
  (MeetsSeq.list_pop_at l its.toArray n i t k w (fitsIndex_both h1 h2) (by rw [List.size_toArray, ← hl]; exact hk) (by rw [← Array.getElem?_toList]; exact hw) (by rw [List.size_toArray]; omega)) ⟨e, ?_⟩
 refine ⟨y, _, I.lset (its' := its.eraseIdx k) hH e ?_ (r.eraseIdx k) ?_, rw', q⟩
 ·show its.toArray.eraseIdxIfInBounds k = (its.eraseIdx k).toArray
  rw [List.eraseIdxIfInBounds_toArray]
 ·have := len_erase xs k
  omega
noncomputable def rReverse : V → List V → Hp → VK → Prop := fun x vs H Q => ∃ l xs, x = .ref l ∧ vs = [] ∧ H l = some (.lst xs) ∧ Q .non (upd H l (.lst xs.reverse))
noncomputable def rClear : V → List V → Hp → VK → Prop := fun x vs H Q => ∃ l xs, x = .ref l ∧ vs = [] ∧ H l = some (.lst xs) ∧ Q .non (upd H l (.lst []))
noncomputable def rCat : R2 := fun x y H Q => ∃ l b xs zs, x = .ref l ∧ y = .ref b ∧ H l = some (.lst xs) ∧ H b = some (.lst zs) ∧ xs.length + zs.length ≤ sizeLine ∧ ∀ p, H p = none → Q (.ref p) (upd H p (.lst (xs ++ zs)))
theorem op_cat : OpR X (binaryOp .Add) rCat := by
 intro pins s σ H x y v u Q I rx ry h
 obtain ⟨l, b, xs, zs, rfl, rfl, hH, hB, hz, q⟩ := h
 cases rx
 cases ry
 obtain ⟨z, its, n, r, hl, e⟩ := I.lstM hH
 obtain ⟨z2, its2, n2, r2, hl2, e2⟩ := I.lstM hB
 refine PySem.P.add_list e e2 ?_ (by rw [List.size_toArray, List.size_toArray]; omega)
 have ea : its.toArray ++ its2.toArray = (its ++ its2).toArray := by simp
 rw [ea]
 exact ⟨.ref _, _, I.lnew (t' := s.toks) (r.append r2) (by rw [List.length_append]; omega), rfl, q _ I.fresh⟩
noncomputable def rRep : R2 := fun x y H Q => ∃ l k xs, x = .ref l ∧ y = .int k ∧ H l = some (.lst xs) ∧ -(2 ^ 63) ≤ k ∧ k < 2 ^ 63 ∧ xs.length * k.toNat ≤ sizeLine ∧
 ∀ p, H p = none → Q (.ref p) (upd H p (.lst (List.replicate k.toNat xs).flatten))
theorem len_rep {α : Type} (xs : List α) (k : Nat) : (List.replicate k xs).flatten.length = k * xs.length := by
 induction k with
 | zero => simp
 | succ k ih => rw [List.replicate_succ, List.flatten_cons, List.length_append, ih, Nat.succ_mul, Nat.add_comm]
theorem op_rep : OpR X (binaryOp .Mult) rRep := by
 intro pins s σ H x y v u Q I rx ry h
 obtain ⟨l, k, xs, rfl, rfl, hH, h1, h2, hz, q⟩ := h
 cases rx
 obtain ⟨t, rfl⟩ := ry
 obtain ⟨z, its, n, r, hl, e⟩ := I.lstM hH
 have hlen : its.toArray.size * k.toNat ≤ sizeLine := by rw [List.size_toArray, ← hl]; exact hz
 have hcap : ¬ its.toArray.size * k.toNat > (2 ^ 63 - 1) / 8 := by
  have : (sizeLine : Nat) ≤ (2 ^ 63 - 1) / 8 := by decide
  omega
 have hfit : ¬ (!Builtin.List.listFitsIndex k) = true := by
  rw [fitsIndex_both h1 h2]
  exact Bool.false_ne_true
 have hlong : ¬ Builtin.List.listTooLong (its.toArray.size * k.toNat) = true := by
  rw [notLongL hlen]
  exact Bool.false_ne_true
 have hnew : List.foldl (fun x1 x2 => x1 ++ x2) #[] (List.replicate (if its.toArray.isEmpty = true then 0 else k.toNat) its.toArray) = (List.replicate k.toNat its).flatten.toArray := by
  have f0 : ∀ m : Nat, List.foldl (fun x1 x2 => x1 ++ x2) #[] (List.replicate m its.toArray) = (List.replicate m its).flatten.toArray := fun m => by
   have := foldl_rep its m []
   rw [List.nil_append] at this
   exact this
  rw [f0]
  cases its with
  | nil => simp
  | cons a r' => rw [if_neg (by simp)]
 refine wpAny_binaryOp_repeat_ref (T := "list") (U := "int") (by decide) ⟨_, e, rfl⟩ (fun s' => typeIs_int s' k t) noFill_list_mul F.fills_int_mul F.slot_int_rmul repeat_list F.slot_int_index.lookup
  (call_meets F.slot_int_rmul (typeIs_int s k t) F.entry_int_rmul (F.args_int_rmul_2 _ _) (int___rmul___int_list k t l its.toArray n)
   ⟨e, rfl, ⟨_, e, rfl⟩, call_meets F.slot_list_mul ⟨_, e, rfl⟩ F.entry_list_mul (F.args_list_mul_2 _ _) (AutoListH.list___mul___list_int_3 l its.toArray n k t hfit hcap hlong) ⟨e, ?_⟩⟩)
 rw [hnew]
 exact ⟨.ref _, _, I.lnew (t' := s.toks) (r.rep k.toNat) (by rw [len_rep, Nat.mul_comm]; exact hz), rfl, q _ I.fresh⟩
end
section
variable {prog : Program} {w : World} {A : Around} {E : Value → Shared → Prop} {s : Shared}
end
section
variable {X : Cx}
end
end L2
namespace Att
open PySem PySem.W PySem.Calls PyProof.Rows
theorem ints_of_wellAll {P : Params} {h : Heap} : ∀ (ns : List Int) (vs : List Value), WellAll P h vs (ns.map WData.int) → IntsAre vs ns := by
 intro ns
 induction ns with
 | nil =>
  intro vs w
  rw [List.map_nil] at w
  cases w
  exact .nil
 | cons n ns ih =>
  intro vs w
  rw [List.map_cons] at w
  cases w with
  | cons a b =>
   cases a
   exact .cons _ _ (ih _ b)
theorem script_of {l : OpenLaw} {n : Nat} (hn : l.most = some n) {P : Params} {h : Heap} {args : List WData} {vals : List Value}
  (hpre : l.row.toRowW.claim.pre args = true) (hwl : WellAll P h vals args) :
  ∃ a vs ns, vals = [Value.ref a] ∧ args = [WData.list (ns.map WData.int)] ∧ h.get? a = some { cls := .type "list", data := .seq vs.toArray } ∧ IntsAre vs ns ∧ ns.length ≤ n := by
 have hsh : WShape.hasAll [] args [.list .int] = true := (pre_splitW hpre).1
 have hc : l.pre.holds [] { args := args } = true := (pre_splitW hpre).2
 obtain ⟨d, r, rfl, h1, h2⟩ := hasAllW_cons hsh
 obtain rfl := hasAllW_nil h2
 obtain ⟨xs, rfl, h3⟩ := hasW_list h1
 obtain ⟨ns, rfl⟩ := items_int h3
 have hlen : ns.length ≤ n := by
  unfold OpenLaw.pre at hc
  have h4 : (WTm.not (.lt (.lit (.int (n : Int))) (.len (.arg 0)))).holds [] { args := [.list (ns.map .int)] } = true := by
   have h4 := (holds_andW hc).1
   rw [hn] at h4
   exact h4
  have h5 := condW_of h4 (w_not (w_lt w_lit (w_len_list (w_arg rfl))))
  rw [List.length_map] at h5
  refine Nat.le_of_not_lt fun q => ?_
  have q' : (n : Int) < ((ns.length : Nat) : Int) := by omega
  first
   | (rw [decide_eq_true q'] at h5; exact absurd h5 (by decide))
   | (simp at h5; omega)
 cases hwl with
 | cons w1 w2 =>
  cases w2
  cases w1 with
  | list ho hall => exact ⟨_, _, ns, rfl, rfl, ho, ints_of_wellAll ns _ hall, hlen⟩
theorem post_true (l : OpenLaw) (args : List WData) : l.row.toRowW.claim.post args (.bool true) args = true :=
 postW_of (r := l.row.toRowW) (X := (true == true))
  (show WShape.has [] (.bool true) .bool = true by first | rfl | decide | simp [WShape.has, WShape.arms, WShape.armsAll])
  (show (WTm.eq .res (.lit (.bool true))).value [] { args := args, res := some (.bool true), after := args } = some (.bool (true == true)) from w_eq_bool (w_res rfl) w_lit) rfl
theorem attach_call {l : OpenLaw} {n : Nat} {q : Program} {loose : List Str} {XP : (Str → Option Value) → Heap → Prop} {YP : World → Heap → Prop} {d : DefRec}
  (hn : l.most = some n) (hdf : d.params.defaults = [])
  (call : ∀ (w : World) (s₀ s₁ : Shared) (mg mb : Str → Option Value) (fa : Addr) (o : Obj) (pm cd doc : Value) (a : Addr) (vs : List Value) (ns : List Int),
   Ground q loose [] XP w s₀ mg mb s₁.heap → YP w s₁.heap →
   s₁.heap.get? fa = some o → o.data = .func (docDef d.name d.params d.body d.scope pm cd doc) → s₁.heap.CodeRec cd d.name → mg d.name = some (.ref fa) →
   s₁.heap.get? a = some { cls := .type "list", data := .seq vs.toArray } → IntsAre vs ns → ns.length ≤ n → s₁.gens = #[] →
   codeAny (model l.prog w) callerA (.call (.ref fa) ⟨[.ref a], []⟩) (fun r s' => r = .ok (.ret (.bool true)) ∧ OldK s₁.heap s'.heap ∧ s'.os = s₁.os ∧ AllBare s'.gens) s₁) :
  WalkO q loose XP YP l.row.toRowW d [] (fun f vs => PySem.call f vs) := by
 intro w s₀ s₁ mg mb G Y fa o pm cd doc dV kV ho hd hcd hD hmg hg args vals as hpre hlay hrd hwl hlo
 obtain rfl : dV = .none := Dflts.none hD hdf
 obtain rfl : kV = .none := Dflts.noKw hD
 obtain ⟨a, vs, ns, rfl, rfl, hobj, hints, hlen⟩ := script_of hn hpre hwl
 refine enter_call (codeAny_mono (call w s₀ s₁ mg mb fa o pm cd doc a vs ns G Y ho (fd_plain hd) hcd hmg hobj hints hlen hg) fun r s' hq => ?_)
 obtain ⟨rfl, h2, h3, h4⟩ := hq
 exact ⟨.inl ⟨.bool true, .bool true, [], rfl, fun _ => rfl, .bool true, post_true l _, fun _ => ⟨List.Pairwise.nil, fun _ hm => (nomatch hm)⟩⟩, h2, h3, h4⟩
section
variable {prog : Program} {w : World} {A : Around} {E : Value → Shared → Prop} {s : Shared} {K : Frag}
noncomputable def noObjs (h : Heap) : Heap := { h with objs := #[] }
noncomputable def ledger (h : Heap) (L d : Addr) : List (Addr × Obj) := (List.range h.objs.size).filterMap fun a => if a = L ∨ a = d then none else (h.get? a).map fun o => (a, o)
end
end Att
namespace L2
open PySem PySem.Spec PyProof.Rows
theorem vals_ints : ∀ {vs : List Value} {ns : List Int}, IntsAre vs ns → Vals (ns.map V.int) vs
 | _, _, .nil => .nil
 | _, _, .cons n t h => .cons ⟨t, rfl⟩ (vals_ints h)
noncomputable def Only (H : Hp) : Prop := ∀ b, H b = none ∨ ∃ o xs, H b = some (.frz o (.lst xs))
theorem law_call {P : Program} {w : World} {K : PySem.W.Frag} {mg mb : Str → Option Value} {CX : CXT} {c : Bool} {k : Nat} {fa a : Addr} {fd : FuncData} {x : Str} {sp : Sp} {s₁ : Shared} {vs : List Value} {ns : List Int}
  (KX : K.In s₁.heap) (hns : s₁.heap.Ns mainGlobals mg) (hb : s₁.heap.Ns builtinsNs mb) (hbb : ∀ x : Str, x ≠ "__name__" → mb x = bootBuiltins x) (hlim : s₁.heap.NoLimit) (hg : s₁.gens = #[])
  (ha : s₁.heap.get? a = some { cls := .type "list", data := .seq vs.toArray }) (hi : IntsAre vs ns) (hl : ns.length ≤ sizeLine) (hr : Room k callerA)
  (F : ∀ base : Heap, K.In base → base.Ns mainGlobals mg → FnOk P w K mg base CX c k fa fd [x] sp) (hbind : ∀ (s : Shared) (u : Value), BindsTo s fd ⟨[u], []⟩ [(x, u)])
  (hsp : ∀ H : Hp, Only H → SqL K H a (ns.map V.int) → sp [.ref a] H (fun v _ => v = .bl true) fun _ _ _ => False)
  (hCX : ∀ H e s', CX [] H s₁ (fun _ _ _ => False) e s' → False) :
  codeAny (model P w) callerA (.call (.ref fa) ⟨[.ref a], []⟩) (fun r s' => r = .ok (.ret (.bool true)) ∧ OldK s₁.heap s'.heap ∧ s'.os = s₁.os ∧ AllBare s'.gens) s₁ := by
 have rv := vals_ints hi
 have lenV := hi.length
 have core : ∀ H : Hp, Only H → SqL K H a (ns.map V.int) → HOk P w H s₁.heap → (∀ b, H b ≠ none → b = a) → (H a ≠ none → K.lookup a = none) →
   codeAny (model P w) callerA (.call (.ref fa) ⟨[.ref a], []⟩) (fun r s' => r = .ok (.ret (.bool true)) ∧ OldK s₁.heap s'.heap ∧ s'.os = s₁.os ∧ AllBare s'.gens) s₁ := by
  intro H hO hS hok hA hK
  have base_of : ∀ {b : Addr} {o : Obj}, s₁.heap.get? b = some o → H b = none → (hidT s₁.heap H).get? b = some o := fun e n => hidT_get e n
  have noA : ∀ {b : Addr} {o : Obj} {es : Array DictEntry} {ep : Nat}, s₁.heap.get? b = some o → o.data = .dict es ep → H b = none := fun {b o es ep} e d => by
   cases q : H b with
   | none => rfl
   | some u =>
    have e' : b = a := hA b (by rw [q]; simp)
    subst e'
    rw [ha] at e; cases e
    have d' : Data.seq vs.toArray _ = Data.dict es ep := d
    cases d'
  have nsK : ∀ {b : Addr} {m : Str → Option Value}, s₁.heap.Ns b m → (hidT s₁.heap H).Ns b m := fun {b m} ⟨o, es, ep, e, d, r⟩ => ⟨o, es, ep, base_of e (noA e d), d, r⟩
  have hKb : K.In (hidT s₁.heap H) := fun b o e => base_of (KX b o e) (by
   cases q : H b with
   | none => rfl
   | some u =>
    have e' : b = a := hA b (by rw [q]; simp)
    subst e'
    rw [hK (by rw [q]; simp)] at e; cases e)
  have hM : Mod K mg (hidT s₁.heap H) := ⟨hKb, nsK hns, ⟨mb, nsK hb, hbb⟩, let ⟨mc, h1, h2⟩ := hlim; ⟨mc, nsK h1, h2⟩⟩
  have e0 : Env0 P w K mg (hidT s₁.heap H) callerA [] s₁ H := ⟨rfl, hM, fun b o e => of_hidT e, Nat.le_of_eq (hidT_size _ _), trivial, fun b hb => absurd (show b ∈ ([] : List Addr) from hb) (by simp), hok, .of_eq hg⟩
  refine codeAny_mono ((F _ hKb (nsK hns)).run callerA [] s₁ H ⟨[.ref a], []⟩ [.ref a] [.ref a] _ _ none (fun _ => rfl) (.inl rfl) (fun _ _ z => nomatch z) hr e0 (hbind s₁ (.ref a)) (.cons rfl .nil) (hsp H hO hS)) fun r s' h => ?_
  cases r with
  | error e => exact (hCX H e s' h).elim
  | ok fl =>
   cases fl with
   | next => exact False.elim h
   | brk => exact False.elim h
   | cont => exact False.elim h
   | ret u =>
    obtain ⟨v, H', os, bare, un, hok', r', q⟩ := h
    have q' : v = .bl true := q
    subst q'
    obtain rfl : u = Value.bool true := r'
    refine ⟨rfl, OldK.of_keep fun b o e => ?_, os, bare⟩
    cases q : H b with
    | none => exact un.keep b o e q (by intro z; exact absurd (show b ∈ ([] : List Addr) from z) (by simp)) (by simp)
    | some u =>
     rcases hO b with z | ⟨ob, xs, z⟩
     ·rw [q] at z; cases z
     ·have z2 := un.frzs b ob _ z
      obtain ⟨e1, _⟩ := hok b _ z
      obtain ⟨e2, _⟩ := hok' b _ z2
      rw [e] at e1; cases e1
      exact e2
 cases hk : K.lookup a with
 | some o =>
  have e := KX a o hk
  rw [ha] at e
  cases e
  refine core (fun _ => none) (fun _ => .inl rfl) (.inr ⟨_, vs.toArray, _, hk, rfl, rfl, rfl, by rw [List.size_toArray, lenV]; exact hl, by simpa using rv⟩) (fun b u z => by have z' : (none : Option HO) = some u := z; cases z') (fun b z => absurd rfl z) fun z => absurd rfl z
 | none =>
  refine core (fun b => if b = a then some (.frz { cls := .type "list", data := .seq vs.toArray } (.lst (ns.map V.int))) else none) (fun b => ?_) (.inl (.inr ⟨{ cls := .type "list", data := .seq vs.toArray }, if_pos rfl⟩)) (fun b u z => ?_) (fun b z => ?_) fun _ => hk
  ·by_cases hb : b = a
   ·exact .inr ⟨_, _, if_pos hb⟩
   ·exact .inl (if_neg hb)
  ·by_cases hb : b = a
   ·have z' := (if_pos hb).symm.trans z
    cases z'
    subst hb
    exact ⟨ha, by rw [List.length_map]; exact hl, vs, _, rv, ha⟩
   ·have z' := (if_neg hb).symm.trans z
    cases z'
  ·by_cases hb : b = a
   ·exact hb
   ·exact absurd (if_neg hb) z
end L2
namespace L2
open PySem PySem.Spec PyProof.Rows
noncomputable abbrev KOf {K : PySem.W.Frag} {h : Heap} (_ : K.In h) : PySem.W.Frag := K
theorem walk_of {l : PySem.W.OpenLaw} {c : Bool} {n k : Nat} {q : Program} {loose : List Str} {XP : (Str → Option Value) → Heap → Prop} {YP : World → Heap → Prop} {d : DefRec} {K : Params → PySem.W.Frag} {CX : World → CXT} {sp : World → Sp} {x : Str}
  (hn : l.most = some n) (hn2 : n ≤ sizeLine) (hdf : d.params.defaults = []) (hr : Room k callerA)
  (hY : ∀ (w : World) (h : Heap), YP w h → (K w.params).In h)
  (F : ∀ (w : World) (mg : Str → Option Value) (fa : Addr) (h : Heap), (K w.params).In h → h.Ns mainGlobals mg → mg d.name = some (.ref fa) →
   ∃ fd : FuncData, (∀ (s : Shared) (u : Value), BindsTo s fd ⟨[u], []⟩ [(x, u)]) ∧
    ∀ base : Heap, (K w.params).In base → base.Ns mainGlobals mg → FnOk l.prog w (K w.params) mg base (CX w) c k fa fd [x] (sp w))
  (hsp : ∀ (w : World) (H : Hp) (a : Addr) (ns : List Int), ns.length ≤ n → Only H → SqL (K w.params) H a (ns.map V.int) → sp w [.ref a] H (fun v _ => v = .bl true) fun _ _ _ => False)
  (hCX : ∀ (w : World) (H : Hp) (s : Shared) (e : Value) (s' : Shared), CX w [] H s (fun _ _ _ => False) e s' → False) :
  PySem.W.WalkO q loose XP YP l.row.toRowW d [] (fun f vs => PySem.call f vs) := by
 refine Att.attach_call hn hdf fun w s₀ s₁ mg mb fa o pm cd doc a vs ns G Y ho hd hcd hmg hobj hints hlen hg => ?_
 have KX := hY w _ Y
 obtain ⟨fd, hb, hF⟩ := F w mg fa _ KX G.T.g hmg
 exact law_call KX G.T.g G.T.b G.T.builtins G.T.nolimit hg hobj hints (Nat.le_trans hlen hn2) hr hF hb (fun H hO hS => hsp w H a ns hlen hO hS) fun H e s' => hCX w H s₁ e s'
end L2
namespace L2
open PySem PySem.Spec PyProof.Rows
noncomputable def inClass (s : Stmt) (j : Nat) : Stmt := match s with
 | .ClassDef _ _ _ body _ _ _ _ _ _ _ => body.getD j (.Pass ⟨0, 0, 0, 0⟩)
 | _ => .Pass ⟨0, 0, 0, 0⟩
noncomputable def defArgs (s : Stmt) : Arguments := match s with
 | .FunctionDef _ a _ _ _ _ _ _ _ _ => a
 | _ => { posonlyargs := [], args := [], vararg := none, kwonlyargs := [], kw_defaults := [], kwarg := none, defaults := [] }
noncomputable def defBody (s : Stmt) : List Stmt := match s with
 | .FunctionDef _ _ b _ _ _ _ _ _ _ => b
 | _ => []
noncomputable def defScope (s : Stmt) : Scope := match s with
 | .FunctionDef _ _ _ _ _ _ sc _ _ _ => sc
 | _ => { kind := .function, names := [], isGenerator := false, isCoroutine := false }
noncomputable abbrev CX0 : CXT := fun _ _ _ _ _ _ => False
noncomputable abbrev E0 : XK := fun _ _ _ => False
structure Fun (K : PySem.W.Frag) (x qual : Str) (st : Stmt) (f : Addr) (fd : FuncData) : Prop where
 ex : ∃ (oc : Value) (od : Option Addr) (kV doc pm : Value) (an : Option Addr) (cdv ct : Value) (osl : Array (Option Value)),
  fd = PySem.W.fnOf x qual (defArgs st) (defBody st) (defScope st) .none kV doc pm an cdv ct ∧ K.lookup f = some ⟨oc, od, .func fd, osl⟩ ∧ PySem.W.codeIn K cdv qual = true
 kp : PySem.W.keepIn K (.ref f) = true
section
variable {P : Program} {w : World} {K : PySem.W.Frag} {mg : Str → Option Value} {base : Heap}
theorem Fun.binds {x qual : Str} {st : Stmt} {f : Addr} {fd : FuncData} {ps : List Str} (F : Fun K x qual st f fd)
  (h : ∀ (kV doc pm : Value) (an : Option Addr) (cdv ct : Value) (us : List Value), us.length = ps.length → bindArgs (PySem.W.fnOf x qual (defArgs st) (defBody st) (defScope st) .none kV doc pm an cdv ct) ⟨us, []⟩ = pure (ps.zip us)) : Binds K fd ps [] := by
 obtain ⟨oc, od, kV, doc, pm, an, cdv, ct, osl, rfl, lk, hcd⟩ := F.ex
 exact .all (h kV doc pm an cdv ct)
theorem fun_mk {x qual : Str} {st : Stmt} {f : Addr} {oc : Value} {od an : Option Addr} {osl : Array (Option Value)} {kV doc pm cdv ct : Value} (l : K.lookup f = some ⟨oc, od, .func (PySem.W.fnOf x qual (defArgs st) (defBody st) (defScope st) .none kV doc pm an cdv ct), osl⟩)
  (c : PySem.W.codeIn K cdv qual = true) (k : PySem.W.keepIn K (.ref f) = true) : Fun K x qual st f (PySem.W.fnOf x qual (defArgs st) (defBody st) (defScope st) .none kV doc pm an cdv ct) := ⟨⟨oc, od, kV, doc, pm, an, cdv, ct, osl, rfl, l, c⟩, k⟩
end
theorem hu_of {A : Around} {k : Nat} (hr : Room k A) : A.units + 1 < cLine := Nat.lt_of_le_of_lt (Nat.add_le_add_left (by decide : 1 ≤ 64) _) hr.units
theorem small1000 {n : Nat} (h : n ≤ 1000) : n < sizeLine := Nat.lt_of_le_of_lt h (by decide)
section
variable {X : Cx}
end
theorem iteF {A B : Prop} (h : B) : if false = true then A else B := by
 rw [if_neg Bool.false_ne_true]
 exact h
theorem iteT {A B : Prop} (h : A) : if true = true then A else B := by
 rw [if_pos rfl]
 exact h
theorem ite2 {c A B : Prop} [Decidable c] (h1 : c → A) (h2 : ¬ c → B) : if c then A else B := by
 by_cases h : c
 ·rw [if_pos h]
  exact h1 h
 ·rw [if_neg h]
  exact h2 h
theorem iteNS {c A B : Prop} [Decidable c] (hc : c) (h : B) : if (!decide c) = true then A else B := by
 rw [decide_eq_true hc]
 exact iteF h
noncomputable def Same (H H' : Hp) : Prop := ∀ b o, H b = some o → H' b = some o
theorem Same.refl (H : Hp) : Same H H := fun _ _ h => h
theorem Same.trans {H H1 H2 : Hp} (a : Same H H1) (b : Same H1 H2) : Same H H2 := fun c o h => b c o (a c o h)
theorem Same.free {H H' : Hp} (e : Same H H') {l : Addr} (h : H' l = Option.none) : H l = Option.none := by
 cases q : H l with
 | none => rfl
 | some o =>
  rw [e l o q] at h
  cases h
theorem Same.seq {K : PySem.W.Frag} {H H' : Hp} {a : Addr} {xs : List V} (e : Same H H') (h : SqL K H a xs) : SqL K H' a xs := by
 rcases h with (h | ⟨o, h⟩) | h
 ·exact .inl (.inl (e _ _ h))
 ·exact .inl (.inr ⟨o, e _ _ h⟩)
 ·exact .inr h
end L2
namespace L2
open PySem PySem.Spec PyProof.Rows
section
variable {P : Program} {w : World} {H H' H1 H2 : Hp} {h h' h0 h1 h2 B : Heap} {a b : Addr} {o : HO} {fs ex : List Addr}
theorem ObjOk.there (x : ObjOk P w H h a o) : ∃ ob, h.get? a = some ob := by
 cases o with
 | lst xs => obtain ⟨_, _, _, _, e⟩ := x; exact ⟨_, e⟩
 | tup xs => obtain ⟨_, _, _, ob, e, _⟩ := x; exact ⟨_, e⟩
 | dK kvs => obtain ⟨_, _, _, _, o, _, _, e, _⟩ := x; exact ⟨_, e⟩
 | dT kvs => obtain ⟨_, _, _, _, o, _, _, e, _⟩ := x; exact ⟨_, e⟩
 | set S n => obtain ⟨o, _, _, _, e, _⟩ := x; exact ⟨_, e⟩
 | ins C dx fs => obtain ⟨_, _, _, e, _⟩ := x; exact ⟨_, e⟩
 | own y => exact x
 | xd fs => obtain ⟨_, ⟨_, _, _, e, _⟩, _⟩ := x; exact ⟨_, e⟩
 | rng lo hi => obtain ⟨_, _, _, e⟩ := x; exact ⟨_, e⟩
 | frz ob u => obtain ⟨e, _⟩ := x; exact ⟨_, e⟩
 | tbl ps => exact ⟨_, (show h.get? a = some _ from x)⟩
 | met f y => exact ⟨_, (show h.get? a = some _ from x)⟩
 | ext φ => obtain ⟨_, e, _⟩ := x; exact e
theorem Un.shrink {L : Addr} (u : Un (L :: fs) ex H H' h h') (hL : h.get? L = none) : Un fs ex H H' h h' := by
 have ne : ∀ b o, h.get? b = some o → b ≠ L := fun b o q z => by rw [z, hL] at q; cases q
 refine ⟨fun b o q n hb hx => u.keep b o q n (fun z => (List.mem_cons.mp z).elim (ne b o q) hb) hx, fun b o q n hb hx => u.slot b o q n (List.mem_cons_of_mem _ hb) hx, u.free, u.there, u.tups, u.frzs, u.tbls⟩
theorem Un.air (u : Un fs [] H H1 h0 h1) (hB1 : ∀ b o, h0.get? b = some o → b ∉ fs → ∃ o', B.get? b = some o') (s1 : B.StaysIn h1) (s2 : B.StaysIn h2) (up : h1.UpToSlots h2)
  (fr : ∀ b ∈ fs, ∃ o, h1.get? b = some o ∧ ∀ vs, o.data ≠ .fields vs) : Un fs [] H H1 h0 h2 := by
 refine ⟨fun b o q n hb hx => ?_, fun b o q n hb hx => ?_, u.free, fun b o q hx => ?_, u.tups, u.frzs, u.tbls⟩
 ·obtain ⟨o', e⟩ := hB1 b o q hb
  have e1 := s1 b o' e
  rw [u.keep b o q n hb hx] at e1
  cases e1
  exact s2 b _ e
 ·obtain ⟨sl, e1⟩ := u.slot b o q n hb hx
  obtain ⟨o1, e2, nf⟩ := fr b hb
  rw [e1] at e2; cases e2
  obtain ⟨sl', e3⟩ := up b _ e1 nf
  exact ⟨sl', e3⟩
 ·by_cases hb : b ∈ fs
  ·obtain ⟨o1, e2, nf⟩ := fr b hb
   obtain ⟨sl', e3⟩ := up b _ e2 nf
   exact ⟨_, e3⟩
  ·obtain ⟨o', e⟩ := hB1 b o q hb
   exact ⟨o', s2 b o' e⟩
theorem HOk.air (hok : HOk P w H1 h1) (hB2 : ∀ b u, H1 b = some u → ∃ o', B.get? b = some o') (s1 : B.StaysIn h1) (s2 : B.StaysIn h2) : HOk P w H1 h2 := fun a o e =>
 (hok a o e).stay (fun b v hb q => by
  have hu : ∃ u, H1 b = some u := by
   rcases hb with rfl | hb
   ·exact ⟨_, e⟩
   ·exact ⟨_, hb⟩
  obtain ⟨u, hu⟩ := hu
  obtain ⟨o', e1⟩ := hB2 b u hu
  have e2 := s1 b o' e1
  rw [q] at e2; cases e2
  exact s2 b _ e1) (fun _ q => q) fun _ _ q => q
end
noncomputable def CX1 (P : Program) (w : World) : CXT := fun outer H s E e s' =>
 ∃ (a C : Addr) (H' : Hp) (B : Heap), e = .ref a ∧ E (.ref C) none H' ∧ s'.os = s.os ∧ AllBare s'.gens ∧ Un (frs outer) [] H H' s.heap s'.heap ∧ HOk P w H' s'.heap ∧
  InAir B s'.heap outer a (.ref C) (some .none) ∧ (∀ b o, s.heap.get? b = some o → b ∉ frs outer → ∃ o', B.get? b = some o') ∧ (∀ b u, H' b = some u → ∃ o', B.get? b = some o')
structure DefCx (X : Cx) : Prop where
 stk : X.stack = X.env :: X.outer
 frm : X.env.frame = some X.env.locals
 ex : X.ex = []
noncomputable def XE (X : Cx) (E : XK) : Value → Shared → Prop := fun e s' =>
 ∃ (pins : List (Addr × Obj)) (σ : St) (H : Hp) (s : Shared) (a C : Addr) (H1 : Hp) (B : Heap) (f : Option Value), e = .ref a ∧ Inv X pins σ H s ∧ E (.ref C) none H1 ∧ s'.os = s.os ∧ AllBare s'.gens ∧
  Un (frs X.stack) [] H H1 s.heap s'.heap ∧ HOk X.prog X.w H1 s'.heap ∧ InAir B s'.heap X.stack a (.ref C) f ∧ (f = none ∨ f = some .none ∨ f = some (rawInt X.env.locals)) ∧
  (∀ b o, s.heap.get? b = some o → b ∉ frs X.stack → ∃ o', B.get? b = some o') ∧ (∀ b u, H1 b = some u → ∃ o', B.get? b = some o')
noncomputable abbrev Xw (X : Cx) (E : XK) : Cx := X.wish (XE X E)
theorem E0.no {P : Program} {w : World} {outer : List Env} {H : Hp} {s s' : Shared} {e : Value} : ¬ CX1 P w outer H s E0 e s' := fun ⟨_, _, _, _, _, z, _⟩ => z
theorem passN {X : Cx} {P : Program} {w : World} : Passes (CX1 P w) X E0 := fun _ _ _ _ _ _ _ h => (E0.no h).elim
section
variable {X : Cx} {E : XK}
theorem frames_air {B h : Heap} {l : List Env} {e : Addr} {c : Value} {f : Option Value} (x : InAir B h l e c f) : ∀ b ∈ frs l, ∃ o, h.get? b = some o ∧ ∀ vs, o.data ≠ .fields vs := fun b hb => (x.2.2.1.mem hb).2
theorem passX : Passes (CX1 X.prog X.w) (Xw X E) E := fun pins σ H s e s' I h => by
 obtain ⟨a, C, H', B, rfl, q, os, bare, un, hok, air, b1, b2⟩ := h
 exact ⟨pins, σ, H, s, a, C, H', B, some .none, rfl, I.unwish, q, os, bare, un, hok, air, .inr (.inl rfl), b1, b2⟩
theorem passesXE (D : DefCx X) : PassesOwn (model X.prog X.w) X.A X.env (XE X E) := fun e s' h => by
 obtain ⟨pins, σ, H, s, a, C, H1, B, f, rfl, I, q, os, bare, un, hok, air, hf, b1, b2⟩ := h
 have hfr := I.ok.frames
 rw [D.stk] at hfr air
 refine air_note hfr D.frm air hf fun h2 air2 up2 => air_back (s := { s' with heap := h2 }) D.frm air2 fun h3 air3 up3 => ?_
 refine ⟨pins, σ, H, s, a, C, H1, B, _, rfl, I, q, os, bare, un.air b1 air.1 air3.1 (up2.trans up3) (by rw [D.stk]; exact frames_air air), hok.air b2 air.1 air3.1, by rw [D.stk]; exact air3, .inr (.inr rfl), b1, b2⟩
theorem XE.leave (D : DefCx X) {e : Value} {s' : Shared} (h : XE X E e s') {E' : Value → Shared → Prop} {M : Model} :
  wpAny M X.A (leaving X.env e) (fun _ s'' => CX1 X.prog X.w X.outer X.H₀ X.s₀ E e s'') E' s' := by
 obtain ⟨pins, σ, H, s, a, C, H1, B, f, rfl, I, q, os, bare, un, hok, air, hf, b1, b2⟩ := h
 have hfr := I.ok.frames
 rw [D.stk] at hfr air
 refine air_leave hfr D.frm air hf fun h2 air2 up2 => ?_
 have u1 : Un (frs X.stack) [] H H1 s.heap h2 := un.air b1 air.1 air2.1 up2 (by rw [D.stk]; exact frames_air air)
 have e1 : frs X.stack = X.env.locals :: frs X.outer := by unfold frs; rw [D.stk, List.filterMap_cons, D.frm]
 have hb : Un (frs X.stack) [] X.H₀ H X.s₀.heap s.heap := by
  have z := I.base
  rw [D.ex] at z
  exact z.mono (fun b hb => by rw [e1]; exact List.mem_cons_of_mem _ hb) fun _ z => z
 have u2 := hb.trans u1
 rw [e1] at u2
 have u3 := u2.shrink (Heap.get?_none_of_le I.ok.above)
 refine ⟨a, C, H1, B, rfl, q, os.trans I.os, bare, u3, hok.air b2 air.1 air2.1, air2, fun b o z hn => ?_, b2⟩
 obtain ⟨o', z'⟩ := I.base.there b o z (by rw [D.ex]; simp)
 refine b1 b o' z' fun hm => ?_
 rw [e1] at hm
 rcases List.mem_cons.mp hm with hm | hm
 ·exact absurd (Nat.lt_of_lt_of_le (Heap.lt_size z) I.ok.above) (by rw [hm]; exact Nat.lt_irrefl _)
 ·exact hn hm
theorem PSs.unw {X : Cx} (D : DefCx X) (hx : X.xe = fun e s' => wpAny (model X.prog X.w) X.A (leaving X.env e) (fun _ s'' => CX1 X.prog X.w X.outer X.H₀ X.s₀ E e s'') (fun e' s'' => CX1 X.prog X.w X.outer X.H₀ X.s₀ E e' s'') s')
  {st : List Stmt} {t : TS} (h : PSs (Xw X E) st t) : PSs X st t := .mk fun pins s σ H Dn I hw =>
 wpAny_mono (h pins s σ H Dn (I.wish _) hw) (fun f s' q => q.unwish) fun e s' q => by rw [hx]; exact XE.leave D q
end
section
variable {P : Program} {w : World} {K : PySem.W.Frag} {mg : Str → Option Value} {base : Heap} {c : Bool}
theorem Fun.ok {x qual : Str} {st : Stmt} {f : Addr} {fd : FuncData} {N ps : List Str} {k : Nat} {sp : Sp} (F : Fun K x qual st f fd) (S : FnScope N ps (defScope st)) (len : ∀ vs H Q E, sp vs H Q E → vs.length = ps.length)
  (hbody : ∀ (cdv : Value) (A : Around) (outer : List Env) (s : Shared) (H : Hp) (vs : List V) (Q : VK) (E : XK) (hx : Option (Addr × Obj)), (c = true → hx = none) → HxOk hx H → Room k (A.deeper (envOfC qual (defScope st) s.heap.objs.size f cdv)) →
   DefCx (cxOf (CX1 P w) P w K mg base c hx N qual (defScope st) f cdv A outer s H E) → sp vs H Q E →
   ∃ t, PSs (Xw (cxOf (CX1 P w) P w K mg base c hx N qual (defScope st) f cdv A outer s H E) E) (defBody st) t ∧ t { nx := fun _ H' => Q .non H', rt := Q } (start N vs) H) : FnOk P w K mg base (CX1 P w) c (k + 1) f fd ps sp := by
 obtain ⟨oc, od, kV, doc, pm, an, cdv, ct, osl, rfl, lk, hcd⟩ := F.ex
 refine fn_of lk hcd S len fun A outer s H vs Q E hx hcx hh hr hsp => ?_
 obtain ⟨t, h, q⟩ := hbody cdv A outer s H vs Q E hx hcx hh hr ⟨rfl, rfl, rfl⟩ hsp
 exact ⟨t, PSs.unw ⟨rfl, rfl, rfl⟩ rfl h, q⟩
end
noncomputable abbrev veB : List Value := [.type "ValueError", .type "Exception", .type "BaseException", .type "object"]
noncomputable abbrev ExcC (K : PySem.W.Frag) (C : Addr) : Prop := PySem.W.excIn K C veB "ValueError.__new__" = true
theorem ns_keep {K : PySem.W.Frag} {h h' : Heap} {N : Addr} {m : Str → Option Value} (X : K.In h) (X' : K.In h') (q : PySem.W.nsOkIn K N = true) (n : h.Ns N m) : h'.Ns N m := by
 unfold PySem.W.nsOkIn at q
 split at q
 ·rename_i ho
  exact n.at' fun o e => by
   have e2 := X _ _ ho
   rw [e] at e2
   cases e2
   exact X' _ _ ho
 ·cases q
noncomputable def tRaise (E : XK) (C : Addr) (t : TA) : TS := fun _ σ H => t σ H fun vs H1 => vs.length ≤ sizeLine ∧ E (.ref C) none H1
theorem made_air {h h' : Heap} {e C : Addr} {vs : List Value} {l : List Env} {B0 : Heap} (hm : Heap.MadeExcOf h h' e (.ref C) vs) (hl : h.FunFrames B0 l) : InAir (PySem.W.hideAll h (frs l)) h' l e (.ref C) none := by
 obtain ⟨t, he, _, _⟩ := hm.there
 refine ⟨fun b o q => hm.keeps b o (PySem.W.of_hideAll _ q), ?_, ?_, _, ⟨_, he, ⟨rfl, rfl⟩, rfl⟩, rfl, rfl⟩
 ·cases q : (PySem.W.hideAll h (frs l)).get? e with
  | none => rfl
  | some o => have := PySem.W.of_hideAll _ q; rw [hm.new] at this; cases this
 ·exact (PySem.W.funFrames_hide hl fun env he a ha => List.mem_filterMap.mpr ⟨env, he, ha⟩).of_keeps fun b o hb _ => ⟨o, hm.keeps b o hb, rfl⟩
theorem ps_raise {X : Cx} {E : XK} {x : Str} {C : Addr} {e : Expr} {es : List Expr} {t : TA} {np cpos pos : Pos} (hc : X.calm = true) (hg : Gl X x) (hm : X.mg x = some (.ref C)) (hE : ExcC X.K C) (ha : PA (Xw X E) (e :: es) t)
  (hdb : (x == ("__debug__" : Str)) = false := by decide) (he : starEach (e :: es) X.env = (false, eval e X.env) :: starEach es X.env := by rfl) (hpl : (backTo cpos (starEach es X.env)).any (·.1) = false := by rfl) :
  PS (Xw X E) (.Raise (some (.Call (.Name x np) (e :: es) [] cpos)) none pos) (tRaise E C t) := by
 constructor
 intro pins s σ H D I h
 have hE' := hE
 unfold ExcC PySem.W.excIn at hE'
 split at hE'
 ·rename_i dd cd sl ho
  split at hE'
  ·rename_i C' bm k0 k1 k2 k3 n k5 hmr hs
   simp only [Bool.and_eq_true, beq_iff_eq, Bool.not_eq_true'] at hE'
   obtain ⟨⟨⟨⟨⟨rfl, rfl⟩, hdel⟩, ht⟩, hok⟩, hni⟩ := hE'
   obtain ⟨nm, bs, mro, ns, qn, hd, sn, sub, ab, col, del⟩ := cd
   dsimp only at hmr hdel hok hni
   subst hmr hdel
   have hsl : sl = #[k0, k1, k2, k3, some (.builtin "ValueError.__new__"), k5] := by
    obtain ⟨l⟩ := sl
    simp only at hs
    rw [hs]
   subst hsl
   have KI := I.kIn
   have hN : s.heap.Ns ns (s.heap.nsMap ns) := .of_isNs (PySem.W.isNs_of_in KI hok)
   have T := PySem.W.tail_of_in KI ht
   refine wpAny_Raise_call_subU (C := C') (nm := nm) (q := qn) (N := ns) (bs := bs) (bm := bm) (hdct := hd) (sn := sn) (sub := sub) (ab := ab) (col := col) (dd := dd) (k0 := k0) (k1 := k1) (k2 := k2) (k3 := k3) (k5 := k5)
    PySem.F.excBase_ValueError (bmB := veB) (by decide) PySem.F.excBase_ValueError (mN := s.heap.nsMap ns) (T.hasType PySem.F.excBase_ValueError.hasBase) (I.ok.hd hc) (by show (backTo cpos (starEach (e :: es) X.env)).any (·.1) = false; rw [he]; show (false || (backTo cpos (starEach es X.env)).any (·.1)) = false; rw [hpl]; rfl) (PySem.W.nsMap_none_of_in KI hok hni)
    (ld_glob I hg hm ⟨rfl, ?_⟩ hdb)
   have ha' := ha cpos pins s σ H _ I h
   have ha2 : wpAny (model X.prog X.w) X.A (spliced (backTo cpos (starEach (e :: es) X.env))) _ (XE X E) s := ha'
   show wpAny (model X.prog X.w) X.A (evalArgs (.ref C') true (backTo cpos (starEach (e :: es) X.env)) []) _ (XE X E) s
   rw [he] at ha2 ⊢
   refine Calls.evalArgs_plain (thn ha2 fun us s2 ⟨vs, H2, I2, rv, z, q⟩ => ⟨rfl, by rw [← rv.length]; exact z, I2.kIn _ _ ho, ns_keep KI I2.kIn hok hN, PySem.W.tail_of_in I2.kIn ht, fun h' e hx => ?_⟩)
   have I3 := I2.unwish
   refine ⟨pins, σ, H2, s2, e, C', H2, PySem.W.hideAll s2.heap (frs X.stack), none, rfl, I3, q, rfl, I3.bare, Un.kept hx.keeps, I3.hok.kept hx.keeps, made_air hx I3.stack, .inl rfl, fun b o z hn => ⟨o, PySem.W.hideAll_get _ z hn⟩, fun b u z => ?_⟩
   obtain ⟨o', z'⟩ := (I3.hok b u z).there
   exact ⟨o', PySem.W.hideAll_get _ z' fun hn => by rw [I3.stkFree b hn] at z; cases z⟩
  ·cases hE'
 ·cases hE'
end L2
namespace L2
open PySem PySem.Spec PyProof.Rows
noncomputable def ExcObj (C : Addr) (o : Obj) : Prop := (o.cls = .ref C ∧ o.dict = none) ∧ ∃ vs, o.data = .fields vs ∧ vs[2]? = some .none
noncomputable abbrev frzE (o : Obj) : HO := .frz o (.ext fun _ => True)
noncomputable abbrev Cx.pin (X : Cx) (pn : List (Addr × Obj)) : Cx := { X with pn := pn }
noncomputable abbrev hdCx (X : Cx) (a : Addr) (o : Obj) : Cx := { X with A := X.A.mark (some (.ref a)), calm := false, hx := some (a, o), xe := fun _ _ => False }
noncomputable def blank (n : Nat) : St := List.replicate n none
theorem blank_no {n i : Nat} {v : V} : ¬ (blank n)[i]? = some (some v) := fun h => by
 unfold blank at h
 rw [List.getElem?_replicate] at h
 split at h <;> cases h
section
variable {X : Cx} {pins pn : List (Addr × Obj)} {σ : St} {H : Hp} {s : Shared} {a : Addr} {o : Obj}
theorem Inv.toPn (I : Inv X pins σ H s) : Inv (X.pin (X.pn ++ pins)) [] σ H s :=
 ⟨⟨I.ok.mod, I.ok.kind, I.ok.glob, I.ok.blt, I.ok.above, I.ok.inj, I.ok.has, I.ok.cab, I.ok.hd, I.ok.frames, I.ok.stk, I.ok.exf, I.ok.bs, I.ok.bsz, I.ok.noex, I.ok.exfs, I.ok.funs, I.ok.frf, I.ok.hnd⟩, I.os, I.bare, I.base, I.loc, I.cell, I.free, I.freeC,
  fun p hp => I.pin p (by rw [List.append_nil] at hp; exact hp), I.hok, I.len, I.hxs⟩
theorem Inv.ofPn {pins' : List (Addr × Obj)} (I : Inv (X.pin (X.pn ++ pins)) pins' σ H s) : Inv X pins σ H s :=
 ⟨⟨I.ok.mod, I.ok.kind, I.ok.glob, I.ok.blt, I.ok.above, I.ok.inj, I.ok.has, I.ok.cab, I.ok.hd, I.ok.frames, I.ok.stk, I.ok.exf, I.ok.bs, I.ok.bsz, I.ok.noex, I.ok.exfs, I.ok.funs, I.ok.frf, I.ok.hnd⟩, I.os, I.bare, I.base, I.loc, I.cell, I.free, I.freeC,
  fun p hp => I.pin p (List.mem_append_left _ hp), I.hok, I.len, I.hxs⟩
theorem Inv.toHd {C : Addr} (I : Inv X pins σ H s) (hx : ExcObj C o) (ha : ∃ u, H a = some (.frz o u)) : Inv (hdCx X a o) pins σ H s := by
 obtain ⟨_, vs, hd, h2⟩ := hx
 refine ⟨⟨I.ok.mod, I.ok.kind, I.ok.glob, I.ok.blt, I.ok.above, I.ok.inj, I.ok.has, I.ok.cab, (fun z => nomatch z), I.ok.frames, I.ok.stk, I.ok.exf, I.ok.bs, I.ok.bsz, I.ok.noex, I.ok.exfs, I.ok.funs, I.ok.frf, .inr ⟨a, o, vs, rfl, rfl, hd, h2⟩⟩, I.os, I.bare, I.base, I.loc, I.cell, I.free, I.freeC,
  I.pin, I.hok, I.len, fun a' o' e => ?_⟩
 cases e
 exact ha
theorem Inv.ofHd (I : Inv (hdCx X a o) pins σ H s) (hh : X.calm = true → X.A.handled = none) (h0 : X.hx = none) (hn : HdOk X.hx X.A) : Inv X pins σ H s :=
 ⟨⟨I.ok.mod, I.ok.kind, I.ok.glob, I.ok.blt, I.ok.above, I.ok.inj, I.ok.has, I.ok.cab, hh, I.ok.frames, I.ok.stk, I.ok.exf, I.ok.bs, I.ok.bsz, I.ok.noex, I.ok.exfs, I.ok.funs, I.ok.frf, hn⟩, I.os, I.bare, I.base, I.loc, I.cell, I.free, I.freeC,
  I.pin, I.hok, I.len, fun a' o' e => by rw [h0] at e; cases e⟩
theorem Inv.track {h0 : Heap} (I : Inv X pins σ H s) (hn : H a = none) (ha : s.heap.get? a = some o) (hs : X.s₀.heap.get? a = none) (hL : a ≠ X.env.locals) (hC : ∀ x c, X.env.cells.lookup x = some c → c ≠ a) (hP : ∀ p ∈ X.pn ++ pins, p.1 ≠ a) :
  Inv X pins σ (upd H a (frzE o)) s := by
 have ne : ∀ b u, H b = some u → b ≠ a := fun b u e z => by rw [z, hn] at e; cases e
 have st : ∀ b u, H b = some u → upd H a (frzE o) b = some u := fun b u e => by rw [upd_ne (ne b u e)]; exact e
 have fr : ∀ b, b ≠ a → H b = none → upd H a (frzE o) b = none := fun b z e => by rw [upd_ne z]; exact e
 refine ⟨I.ok, I.os, I.bare, ⟨I.base.keep, I.base.slot, fun b ob q n hx => fr b (fun z => by rw [z, hs] at q; cases q) (I.base.free b ob q n hx), I.base.there, fun b xs q => st b _ (I.base.tups b xs q), fun b ob u q => st b _ (I.base.frzs b ob u q), fun b ps q => ?_⟩,
  I.loc, I.cell, fr _ (Ne.symm hL) I.free, fun x c e => fr c (hC x c e) (I.freeC x c e), fun p hp => ?_, fun b u e => ?_, I.len, fun b ob e => ?_⟩
 ·obtain ⟨more, e⟩ := I.base.tbls b ps q
  exact ⟨more, st b _ e⟩
 ·obtain ⟨e, n, r⟩ := I.pin p hp
  exact ⟨e, fr _ (hP p hp) n, r⟩
 ·by_cases hb : b = a
  ·subst hb
   rw [upd_same] at e
   cases e
   exact ⟨ha, trivial, ⟨_, ha⟩, fun _ _ _ _ => trivial⟩
  ·rw [upd_ne hb] at e
   exact (I.hok b u e).stay (fun c v _ q => q) (fun c q => st c _ q) fun c xs q => st c _ q
 ·obtain ⟨u, z⟩ := I.hxs b ob e
  exact ⟨u, st b _ z⟩
theorem Inv.forget {h' : Heap} {t' : Nat} {m' : Str → Option Value} (I : Inv X pins σ H s) (hn : h'.Ns X.env.locals m') (hs : Heap.SameBut X.env.locals s.heap h') : Inv X pins (blank X.N.length) H { s with heap := h', toks := t' } := by
 have keep : ∀ b ob, b ≠ X.env.locals → s.heap.get? b = some ob → h'.get? b = some ob := fun b ob hb q => (hs.2 b hb).trans q
 have old : ∀ b ob, X.s₀.heap.get? b = some ob → b ≠ X.env.locals := fun b ob q => Nat.ne_of_lt (Nat.lt_of_lt_of_le (Heap.lt_size q) I.ok.above)
 refine ⟨I.ok, I.os, I.bare, ⟨fun b ob q n hb hx => keep b ob (old b ob q) (I.base.keep b ob q n hb hx), fun b ob q n hb hx => ?_, I.base.free, fun b ob q hx => ?_, I.base.tups, I.base.frzs, I.base.tbls⟩,
  ⟨m', hn, fun i x v _ e _ => (blank_no e).elim⟩, fun x c e => ?_, I.free, I.freeC, fun p hp => ?_, fun b u e => ?_, List.length_replicate, I.hxs⟩
 ·obtain ⟨sl, e⟩ := I.base.slot b ob q n hb hx
  exact ⟨sl, keep b _ (old b ob q) e⟩
 ·obtain ⟨o', e⟩ := I.base.there b ob q hx
  exact ⟨o', keep b o' (old b ob q) e⟩
 ·obtain ⟨v, z⟩ := I.cell x c e
  exact ⟨v, z.sameBut hs (I.cne x c e)⟩
 ·obtain ⟨e, n, ne, r⟩ := I.pin p hp
  exact ⟨keep _ _ ne e, n, ne, r⟩
 ·refine (I.hok b u e).stay (fun c v hc q => keep c v (fun z => ?_) q) (fun _ q => q) fun _ _ q => q
  rcases hc with hc | hc
  ·rw [← hc, z, I.free] at e; cases e
  ·rw [z, I.free] at hc; cases hc
theorem ld_globA {M : Model} {A : Around} {E : Value → Shared → Prop} {x : Str} {u : Value} {pos : Pos} {Q : Value → Shared → Prop} (I : Inv X pins σ H s) (hg : Gl X x) (hm : X.mg x = some u) (h : Q u s)
  (hd : (x == ("__debug__" : Str)) = false := by decide) : wpAny M A (eval (.Name x pos) X.env) Q E s :=
 Calls.Name_function_global I.ok.kind hg (Calls.loadGlobal_global (by rw [I.ok.glob]; exact I.mod.glob.keeps I.bk) hm h) hd
end
noncomputable def tTry (K : PySem.W.Frag) (n i : Nat) (CE : Addr) (tb : XK → TS) (th : TS) : TS := fun D σ H => ∃ E1 : XK, tb E1 D σ H ∧ ∀ cls H1, E1 cls none H1 → ∃ C, cls = .ref C ∧ PySem.W.exmOne K (.ref C) (.ref CE) = some true ∧
 ∀ a o, H1 a = none → ExcObj C o → th { nx := fun _ H' => D.nx (blank n) H', rt := D.rt, bk := fun _ H' => D.bk (blank n) H', ct := fun _ H' => D.ct (blank n) H' } ((blank n).set i (some (.ref a))) (upd H1 a (frzE o))
theorem SP.ofPn {X : Cx} {E E' : Value → Shared → Prop} {pins pins' : List (Addr × Obj)} {D : Ends} {f : Flow} {s' : Shared} (h : SP ((X.pin (X.pn ++ pins)).wish E) pins' D f s') : SP (X.wish E') pins D f s' := by
 cases f with
 | next => obtain ⟨a, b, I, q⟩ := h; exact ⟨a, b, I.unwish.ofPn.wish _, q⟩
 | brk => obtain ⟨a, b, I, q⟩ := h; exact ⟨a, b, I.unwish.ofPn.wish _, q⟩
 | cont => obtain ⟨a, b, I, q⟩ := h; exact ⟨a, b, I.unwish.ofPn.wish _, q⟩
 | ret u => obtain ⟨v, a, b, I, r, q⟩ := h; exact ⟨v, a, b, I.unwish.ofPn.wish _, r, q⟩
theorem ps_try {X : Cx} {E : XK} {body : List Stmt} {b₀ : Stmt} {suite : List Stmt} {x n : Str} {i : Nat} {CE : Addr} {tb : XK → TS} {th : TS} {np hpos pos : Pos} (Dx : DefCx X) (h0 : X.hx = none)
  (hb : ∀ (E1 : XK) (pn : List (Addr × Obj)), PSs (Xw (X.pin pn) E1) body (tb E1)) (hg : Gl X x) (hm : X.mg x = some (.ref CE)) (hN : X.N.Nodup) (hi : X.N[i]? = some n) (hl : X.env.scope.names.lookup n = some .local)
  (hh : ∀ (a : Addr) (o : Obj) (pn : List (Addr × Obj)), PSs (hdCx (X.pin pn) a o) (b₀ :: suite) th) (hdb : (x == ("__debug__" : Str)) = false := by decide) :
  PS (Xw X E) (.Try body [.ExceptHandler (some (.Name x np)) (some n) (b₀ :: suite) hpos] [] [] pos) (tTry X.K X.N.length i CE tb th) := by
 constructor
 intro pins s σ H D I h
 obtain ⟨E1, hq, hE⟩ := h
 have I0 := I.unwish
 refine wpAny_Try_except (wpAny_mono (hb E1 (X.pn ++ pins) [] s σ H D (I0.toPn.wish _) hq) (fun f s1 q => ?_) fun e s1 hx => ?_)
 ·have q' : SP (Xw X E) pins D f s1 := q.ofPn
  cases f with
  | next => exact wpAny_execs_nil q'
  | brk => exact q'
  | cont => exact q'
  | ret u => exact q'
 ·obtain ⟨pins', σ', H', s', a, C, H1, B, f, rfl, I1, q, os, bare, un, hok, air, hf, b1, b2⟩ := hx
  obtain ⟨C', ec, hsub, hth⟩ := hE _ _ q
  cases ec
  have hfr := I1.ok.frames
  have stk : (X.pin (X.pn ++ pins)).stack = X.env :: X.outer := Dx.stk
  rw [stk] at hfr air
  have newA : s'.heap.get? a = none := by
   cases z : s'.heap.get? a with
   | none => rfl
   | some oa =>
    obtain ⟨_, hen, hl', vs, he, _⟩ := air
    by_cases hm : a ∈ frs (X.env :: X.outer)
    ·obtain ⟨_, o, ho, nf⟩ := hl'.mem hm
     exact absurd rfl (he.no_field ho nf)
    ·obtain ⟨o', z'⟩ := b1 a oa z (by rw [stk]; exact hm)
     rw [hen] at z'; cases z'
  have hn1 : H1 a = none := by
   cases z : H1 a with
   | none => rfl
   | some u =>
    obtain ⟨o', z'⟩ := b2 a u z
    rw [air.2.1] at z'; cases z'
  refine air_note hfr Dx.frm air hf fun h2 air2 up2 => ?_
  refine air_mark (s := { s1 with heap := h2 }) (fr := none) air2 fun h3 air3 up3 => ?_
  have upTo : ∀ {h4 : Heap} {x : Option Value}, InAir B h4 (X.env :: X.outer) a (.ref C) x → s1.heap.UpToSlots h4 → Inv (X.pin (X.pn ++ pins)) pins' σ' H1 { s1 with heap := h4 } := fun {h4 x} air4 up4 =>
   I1.call' (s' := { s1 with heap := h4 }) (ch := []) os (by rw [stk] at un b1 ⊢; exact un.air b1 air.1 air4.1 up4 (frames_air air)) (hok.air b2 air.1 air4.1) bare (fun _ z => nomatch z)
  have I3 := upTo air3 (up2.trans up3)
  refine wpAny_handleBy_cons (codeAny_handlers_test (ld_globA (X := X.pin (X.pn ++ pins)) I3 hg hm ?_ hdb)) (by intro z; cases z)
  obtain ⟨vs3, ⟨oe3, ge3, ce3, de3⟩, _⟩ := air3.2.2.2
  have LT : PySem.W.Looks (model X.prog X.w) h3 (typeOf (.ref a)) (.ref C) := ce3.1 ▸ (PySem.W.Looks.ld ge3).andThen .now
  refine (PySem.W.exm_one (K := X.K) I3.kIn LT hsub) _ _ _ _ (fun _ _ z => z) ?_
  refine codeAny_handlers_suite_as ?_
  refine air_mark (s := { s1 with heap := h3 }) (fr := none) air3 fun h4 air4 up4 => ?_
  have I4 := upTo air4 ((up2.trans up3).trans up4)
  obtain ⟨vs4, ⟨oe, ge, ce, de⟩, e2, _⟩ := air4.2.2.2
  have hx : ExcObj C oe := ⟨ce, vs4, de, e2⟩
  have hsA : X.s₀.heap.get? a = none := by
   cases z : X.s₀.heap.get? a with
   | none => rfl
   | some ob =>
    obtain ⟨o', z'⟩ := I1.base.there a ob z (by show a ∉ X.ex; rw [Dx.ex]; simp)
    rw [newA] at z'; cases z'
  have I5 : Inv (X.pin (X.pn ++ pins)) pins' σ' (upd H1 a (frzE oe)) { s1 with heap := h4 } := I4.track (h0 := h4) hn1 ge hsA (fun z => by
    obtain ⟨m, ⟨ol, es, ep, hol, hdl, _⟩, _⟩ := I1.loc
    have hol' : s'.heap.get? X.env.locals = some ol := hol
    rw [← z, newA] at hol'; cases hol') (fun y c e z => by
    obtain ⟨v, ob, e1, _⟩ := I1.cell y c e
    rw [z, newA] at e1; cases e1) fun p hp z => by
    have e1 := (I1.pin p hp).1
    rw [z, newA] at e1; cases e1
  have I6 : Inv (X.pin (X.pn ++ pins)) [] (blank X.N.length) (upd H1 a (frzE oe)) { s1 with heap := h4 } := (I5.weak (σ' := blank X.N.length) (by rw [I5.len]; exact List.length_replicate) fun i v z => (blank_no z).elim).pins_of (fun p hp => nomatch hp)
  have I7 := I6.toHd hx ⟨_, upd_same⟩
  refine store_ok (X := hdCx (X.pin (X.pn ++ pins)) a oe) (i := i) (v := .ref a) I7 hN hi (.inl hl) rfl (fun s8 I8 => ?_) (.inr hl)
  refine wpAny_mono (hh a oe (X.pn ++ pins) [] s8 _ _ _ I8 (hth a oe hn1 hx)) (fun fl s9 q9 => ?_) fun _ _ z => z.elim
  have back : ∀ {σ9 : St} {H9 : Hp}, Inv (hdCx (X.pin (X.pn ++ pins)) a oe) [] σ9 H9 s9 → (∀ s10, Inv (Xw X E) pins (blank X.N.length) H9 s10 → SP (Xw X E) pins D fl s10) →
    wpAny (model X.prog X.w) X.A (do bindName X.env n .none; unbindBehindTheSuite X.env n hpos) (fun _ s10 => SP (Xw X E) pins D fl s10) (Xw X E).xe s9 := fun {σ9 H9} I9 k => by
   have I10 : Inv X pins σ9 H9 s9 := (I9.ofHd (X := X.pin (X.pn ++ pins)) I1.ok.hd h0 I1.ok.hnd).ofPn
   obtain ⟨m, hn, _⟩ := I10.loc
   refine wpAny_nameGoes hl hn (by rw [I10.ok.kind]; rfl) fun h' m' hn' hs' => k _ ((I10.forget hn' hs').wish _)
  cases fl with
  | next => obtain ⟨σ9, H9, I9, q9⟩ := q9; exact back I9 fun s10 J => ⟨_, _, J, q9⟩
  | brk => obtain ⟨σ9, H9, I9, q9⟩ := q9; exact back I9 fun s10 J => ⟨_, _, J, q9⟩
  | cont => obtain ⟨σ9, H9, I9, q9⟩ := q9; exact back I9 fun s10 J => ⟨_, _, J, q9⟩
  | ret u => obtain ⟨v, σ9, H9, I9, r9, q9⟩ := q9; exact back I9 fun s10 J => ⟨v, _, _, J, r9, q9⟩
end L2
namespace L2
open PySem PySem.Spec PyProof.Rows
theorem closure_go {env : Env} : ∀ (l : List (Str × NameKind)) (cs : List (Str × Addr)), (∀ n, (n, NameKind.free) ∈ l → ∃ c, env.cells.lookup n = some c) →
  ∃ cl, (forIn l cs (fun (x : Str × NameKind) (r : List (Str × Addr)) => if (x.2 == NameKind.free) = true then (do let y ← cellOf env x.1; pure (ForInStep.yield ((x.1, y) :: r)) : Sem (ForInStep (List (Str × Addr)))) else pure (ForInStep.yield r)) : Sem (List (Str × Addr))) = pure cl ∧
   (∀ n c, cl.lookup n = some c → (env.cells.lookup n = some c ∧ (n, NameKind.free) ∈ l) ∨ cs.lookup n = some c) ∧ (∀ n, ((n, NameKind.free) ∈ l ∨ (cs.lookup n).isSome = true) → (cl.lookup n).isSome = true)
 | [], cs, _ => ⟨cs, rfl, fun n c h => .inr h, fun n h => by
   rcases h with h | h
   ·exact nomatch h
   ·exact h⟩
 | (n, k) :: r, cs, h => by
  by_cases hk : k = .free
  ·subst hk
   obtain ⟨c, hc⟩ := h n List.mem_cons_self
   obtain ⟨cl, e, h1, h2⟩ := closure_go r ((n, c) :: cs) fun m hm => h m (List.mem_cons_of_mem _ hm)
   refine ⟨cl, ?_, fun m d hm => ?_, fun m hm => ?_⟩
   ·rw [List.forIn_cons]
    simp only [beq_self_eq_true, if_true]
    have hce : cellOf env n = pure c := by unfold cellOf; rw [hc]
    rw [hce]
    exact e
   ·rcases h1 m d hm with q | q
    ·exact .inl ⟨q.1, List.mem_cons_of_mem _ q.2⟩
    ·rw [List.lookup_cons] at q
     split at q
     ·rename_i z
      have z' : m = n := by simpa using z
      cases q
      subst z'
      exact .inl ⟨hc, List.mem_cons_self⟩
     ·exact .inr q
   ·refine h2 m ?_
    rcases hm with hm | hm
    ·rcases List.mem_cons.mp hm with z | z
     ·have z' : m = n := congrArg Prod.fst z
      subst z'
      refine .inr ?_
      rw [List.lookup_cons]; simp
     ·exact .inl z
    ·refine .inr ?_
     rw [List.lookup_cons]
     split
     ·rfl
     ·exact hm
  ·obtain ⟨cl, e, h1, h2⟩ := closure_go r cs fun m hm => h m (List.mem_cons_of_mem _ hm)
   refine ⟨cl, ?_, fun m d hm => ?_, fun m hm => h2 m ?_⟩
   ·rw [List.forIn_cons]
    have hb : (k == NameKind.free) = false := by simpa using hk
    simp only [hb, Bool.false_eq_true, if_false]
    exact e
   ·rcases h1 m d hm with q | q
    ·exact .inl ⟨q.1, List.mem_cons_of_mem _ q.2⟩
    ·exact .inr q
   ·rcases hm with hm | hm
    ·rcases List.mem_cons.mp hm with z | z
     ·exact absurd (congrArg Prod.snd z).symm hk
     ·exact .inl z
    ·exact .inr hm
theorem closure_ok {scope : Scope} {env : Env} (h : ∀ n, (n, NameKind.free) ∈ scope.names → ∃ c, env.cells.lookup n = some c) :
  ∃ cl, closureFor scope env = pure cl ∧ (∀ n c, cl.lookup n = some c → env.cells.lookup n = some c ∧ (n, NameKind.free) ∈ scope.names) ∧ (∀ n, (n, NameKind.free) ∈ scope.names → (cl.lookup n).isSome = true) := by
 obtain ⟨cl, e, h1, h2⟩ := closure_go scope.names [] h
 refine ⟨cl, ?_, fun n c q => (h1 n c q).elim id fun z => by simp at z, fun n q => h2 n (.inl q)⟩
 unfold closureFor
 exact (congrArg (fun z : Sem (List (Str × Addr)) => z >>= pure) e).trans rfl
theorem lookup_relabel {env : Env} : ∀ {names : List (Str × NameKind)} {x : Str} {k : NameKind}, (names.map fun (n, k) => if (k == NameKind.free && env.scope.kind == .function && env.kindOf n == some .cell) then (n, NameKind.cell) else (n, k)).lookup x = some k →
  names.lookup x = some k ∨ (k = .cell ∧ names.lookup x = some .free)
 | [], _, _, h => by simp at h
 | (n, k') :: r, x, k, h => by
  have ih := @lookup_relabel env r x k
  rw [List.map_cons] at h
  by_cases hc : (k' == NameKind.free && env.scope.kind == .function && env.kindOf n == some .cell) = true
  ·have h' : List.lookup x ((n, NameKind.cell) :: r.map fun (n, k) => if (k == NameKind.free && env.scope.kind == .function && env.kindOf n == some .cell) then (n, NameKind.cell) else (n, k)) = some k := by
    rw [← h]; dsimp only; rw [if_pos hc]
   rw [List.lookup_cons] at h' ⊢
   cases hx : x == n with
   | true =>
    rw [hx] at h'
    cases h'
    simp only [Bool.and_eq_true, beq_iff_eq] at hc
    rw [hc.1.1]
    exact .inr ⟨rfl, rfl⟩
   | false => rw [hx] at h'; exact ih h'
  ·have h' : List.lookup x ((n, k') :: r.map fun (n, k) => if (k == NameKind.free && env.scope.kind == .function && env.kindOf n == some .cell) then (n, NameKind.cell) else (n, k)) = some k := by
    rw [← h]; dsimp only; rw [if_neg hc]
   rw [List.lookup_cons] at h' ⊢
   cases hx : x == n with
   | true => rw [hx] at h'; exact .inl h'
   | false => rw [hx] at h'; exact ih h'
noncomputable abbrev compCx (X : Cx) (scope : Scope) (Nc : List Str) (cl : List (Str × Addr)) (C : Addr) (fp : List Addr) (pn : List (Addr × Obj)) (s₀ : Shared) (H₀ : Hp) : Cx :=
 { X with env := compEnvC scope cl C X.env, N := Nc, s₀ := s₀, H₀ := H₀, outer := X.stack, stack := X.stack, ex := fp, fn := fun _ => false, pn := pn, xe := fun _ _ => False }
noncomputable def capOk (N : List Str) (scope : Scope) (p : Str × Option Nat) : Bool := match p.2 with
 | none => true
 | some k => decide (N[k]? = some p.1) && decide (scope.names.lookup p.1 = some .free)
structure CompSc (N : List Str) (fsc : Scope) (scope : Scope) (Nc : List Str) (caps : List (Option Nat)) (j : Nat) (x : Str) : Prop where
 kind : scope.kind = .function
 nocell : ∀ y ∈ scope.names, y.2 ≠ .cell
 loc : ∀ y ∈ scope.names, y.2 = .local → scope.names.lookup y.1 = some .local
 fre : ∀ y ∈ scope.names, y.2 = .free → fsc.names.lookup y.1 = some .cell ∨ fsc.names.lookup y.1 = some .free
 len : caps.length = Nc.length
 nd : Nc.Nodup
 cap : (Nc.zip caps).all (capOk N scope) = true
 var : Nc[j]? = some x
 slot : caps[j]? = some none
 own : scope.names.lookup x = some .local
noncomputable def capOf (caps : List (Option Nat)) (σ : St) : St := caps.map fun c => c.bind fun k => (σ[k]?).join
theorem capOf_get {caps : List (Option Nat)} {σ : St} {i : Nat} {v : V} (h : (capOf caps σ)[i]? = some (some v)) : ∃ k, caps[i]? = some (some k) ∧ σ[k]? = some (some v) := by
 unfold capOf at h
 rw [List.getElem?_map] at h
 cases e : caps[i]? with
 | none => rw [e] at h; cases h
 | some c =>
  rw [e] at h
  cases c with
  | none => cases h
  | some k =>
   refine ⟨k, rfl, ?_⟩
   have h' : (σ[k]?).join = some v := Option.some.inj h
   cases e2 : σ[k]? with
   | none => rw [e2] at h'; cases h'
   | some y => rw [e2] at h'; cases y with
    | none => cases h'
    | some z => cases h'; rfl
structure PF (X : Cx) (ifs : List Expr) (t : TT) : Prop where
 run : ∀ (pins : List (Addr × Obj)) (s : Shared) (σ : St) (H : Hp) (Q : Bool → Hp → Prop), Inv X pins σ H s → t σ H Q →
  wpAny (model X.prog X.w) X.A (forIn ifs true fun c r => if r = true then do let ok ← isTrue c X.env (eval c X.env); pure (ForInStep.yield ok) else pure (ForInStep.yield r)) (TP X pins σ Q) X.xe s
instance {X : Cx} {ifs : List Expr} {t : TT} : CoeFun (PF X ifs t) (fun _ => ∀ (pins : List (Addr × Obj)) (s : Shared) (σ : St) (H : Hp) (Q : Bool → Hp → Prop), Inv X pins σ H s → t σ H Q →
  wpAny (model X.prog X.w) X.A (forIn ifs true fun c r => if r = true then do let ok ← isTrue c X.env (eval c X.env); pure (ForInStep.yield ok) else pure (ForInStep.yield r)) (TP X pins σ Q) X.xe s) := ⟨fun h => h.run⟩
noncomputable def tYes : TT := fun _ H Q => Q true H
theorem pf_nil {X : Cx} : PF X [] tYes := .mk fun _ _ _ H _ I h => wpAny_tests_nil ⟨H, I, h⟩
theorem pf_one {X : Cx} {c : Expr} {t : TT} (h : PT X c t) : PF X [c] t := .mk fun pins s σ H Q I hw => wpAny_tests_one (h pins s σ H Q I hw)
theorem comp_loop {prog : Program} {w : World} {A : Around} {R : Result → Shared → Prop} {s : Shared} {elt target iter : Expr} {ifs : List Expr} {scope : Scope} {pos : Pos} {it acc : Value} {env : Env} (I : Nat → Shared → Prop)
  (turn : ∀ n s, I n s → wpAny (model prog w) A (pyNext it) (fun r s1 => match r with
   | none => R (.ok .next) s1
   | some v => wpAny (model prog w) A (letOwnedTupleGo target it v) (fun _ s2 => wpAny (model prog w) A (assign target env v) (fun _ s3 =>
     wpAny (model prog w) A (forIn ifs true fun c r => if r = true then do let ok ← isTrue c env (eval c env); pure (ForInStep.yield ok) else pure (ForInStep.yield r)) (fun ok s4 =>
      if ok = true then wpAny (model prog w) A (eval elt env) (fun x s5 => wpAny (model prog w) A (call (.builtin "list.append") [acc, x]) (fun _ s6 => ∃ m, m < n ∧ I m s6) (fun _ _ => False) s5) (fun _ _ => False) s4
      else ∃ m, m < n ∧ I m s4) (fun _ _ => False) s3) (fun _ _ => False) s2) (fun _ _ => False) s1) (fun _ _ => False) s)
  (n : Nat) (h : I n s) : codeAny (model prog w) A (.compLoop (.ListComp elt [⟨target, iter, ifs, 0⟩] scope pos) 0 it acc env) R s := by
 refine codeAny_loop rfl I (fun n s hI => ?_) n h
 show wpAny _ A ((compTurn (.ListComp elt [⟨target, iter, ifs, 0⟩] scope pos) 0 it acc env).onRaise (fun x => do noteFrame x env; theTreesLotGoes x)) _ _ s
 refine wpAny_noted (wpAny_noRaise ?_)
 rw [compTurn_list]
 refine wpAny_bind (wpAny_standAt (wpAny_bind (thn (turn n s hI) fun r s1 h1 => ?_)))
 cases r with
 | none => exact wpAny_pure h1
 | some v =>
  refine wpAny_bind (thn h1 fun _ s2 h2 => wpAny_bind (thn h2 fun _ s3 h3 => wpAny_bind (thn h3 fun ok s4 h4 => ?_)))
  cases ok with
  | false => exact wpAny_pure ⟨rfl, h4⟩
  | true => exact wpAny_bind (wpAny_bind (thn h4 fun x s5 h5 => wpAny_bind (thn h5 fun _ s6 h6 => wpAny_pure (wpAny_pure ⟨rfl, h6⟩))))
noncomputable def CompW (J : It) (caps : List (Option Nat)) (j : Nat) (ti : TT) (te : TE) (σ : St) (H1 : Hp) (D : Addr) (Q : VK) : Prop :=
 ∃ W : Nat → Nat → Hp → Prop, (∃ m, W 0 m (upd H1 D (.lst []))) ∧ ∀ i m H2, W i m H2 →
  (J.stop i H2 ∧ Q (.ref D) H2) ∨ (J.go i H2 ∧ ∀ x H3, J.yld i H2 x H3 → ti ((capOf caps σ).set j (some x)) H3 fun b H4 => if b = true then te ((capOf caps σ).set j (some x)) H4 fun v H5 =>
   ∃ ys, H5 D = some (.lst ys) ∧ ys.length < sizeLine ∧ ∃ m', m' < m ∧ W (i + 1) m' (upd H5 D (.lst (ys ++ [v]))) else ∃ m', m' < m ∧ W (i + 1) m' H4)
noncomputable def tComp (wi : TI) (caps : List (Option Nat)) (j : Nat) (ti : TT) (te : TE) : TE := fun σ H Q => wi σ H fun J H1 => ∀ D, H1 D = none → CompW J caps j ti te σ H1 D Q
end L2
set_option exponentiation.threshold 5000
namespace L2
open PySem PySem.Spec PyProof.Rows
structure Own (P : Program) (w : World) (K : PySem.W.Frag) (mg : Str → Option Value) (base : Heap) (c : Bool) (k : Nat) (x : Str) (ps : List Str) (sp : Sp) : Prop where
 ex : ∃ f fd, FnOk P w K mg base (CX1 P w) c k f fd ps sp ∧ Binds K fd ps [] ∧ PySem.W.keepIn K (.ref f) = true ∧ mg x = some (.ref f)
section
variable {X : Cx} {c : Bool} {k : Nat} {ps : List Str} {sp : Sp} {E : XK} {x : Str} {p pos : Pos} {e : Expr} {es : List Expr} {t : TA}
theorem pe_own (O : Own X.prog X.w X.K X.mg X.base c k x ps sp) (hr : Room k X.A) (hx : Passes (CX1 X.prog X.w) X E) (ha : PA X (e :: es) t) (hca : c = true → X.calm = true := by first | exact fun h => h | exact fun _ => rfl | exact fun h => nomatch h) (hg : Gl X x := by rfl)
  (hdb : (x == ("__debug__" : Str)) = false := by decide) (he : starEach (e :: es) X.env = (false, eval e X.env) :: starEach es X.env := by rfl) (hpl : (backTo pos (starEach es X.env)).any (·.1) = false := by rfl) :
  PE X (.Call (.Name x p) (e :: es) [] pos) (tCall sp [] E t) := by
 obtain ⟨f, fd, F, hb, hk, hm⟩ := O.ex
 exact pe_call F hca hr hg hm hk hb .nil hx ha hdb he hpl
end
noncomputable def CMulA (i j : Int) : Prop := CMul i j ∨ (i.natAbs < 2 ^ 1000 ∧ j.natAbs < 2 ^ 1000)
theorem CMulA.ok {i j : Int} (h : CMulA i j) : IntMulOk i j := by
 rcases h with h | ⟨h1, h2⟩
 ·exact h.ok
 ·exact .of_bits (Nat.le_trans (intBits_le h1) (by decide)) (Nat.le_trans (intBits_le h2) (by decide))
noncomputable def CDivA (_ j : Int) : Prop := 0 < j ∧ j < 2 ^ 1000
section
variable {X : Cx}
theorem op_mulA : OpR X (binaryOp .Mult) (rI CMulA fun i j => .int (i * j)) := opI fun _ _ _ _ _ _ _ hc q => mul_int q hc.ok
theorem op_fdivA : OpR X (binaryOp .FloorDiv) (rI CDivA fun i j => .int (i / j)) := opI fun i j _ _ _ _ _ hc q => by
 obtain ⟨h1, h2⟩ := hc
 refine floordiv_int (by omega) (by rw [Int.fdiv_eq_ediv_of_nonneg _ (Int.le_of_lt h1)]; exact q) (.inl (PyProof.noPylong_of_log2 ?_))
 have h3 : j.natAbs < 2 ^ 1000 := by
  have e : ((j.natAbs : Nat) : Int) = j := by omega
  have h4 : ((j.natAbs : Nat) : Int) < ((2 ^ 1000 : Nat) : Int) := by rw [e, ← two_pow_cast]; exact h2
  exact Int.ofNat_lt.mp h4
 by_cases h0 : j.natAbs = 0
 ·rw [h0]; decide
 ·exact Nat.lt_trans ((Nat.log2_lt h0).mpr h3) (by decide)
theorem call_isi : CallR X (.builtin "isinstance") (fun xs H Q => ∃ x c t b, xs = [x, c] ∧ TyOf X.K H x t ∧ (∀ u, RelV c u → PySem.W.kitOne X.K t u = some b) ∧ Q (.bl b) H) := by
 intro pins s σ H xs us Q I r h
 obtain ⟨x, c, t, b, rfl, ty, hk, q⟩ := h
 obtain ⟨u, w', rfl, rx, rc⟩ := vals2 r
 exact isinst_ok I rx ty (hk w' rc) fun tk => ⟨.bl b, H, I.tok tk, rfl, q⟩
theorem hd1 {pins : List (Addr × Obj)} {σ : St} {H : Hp} {s : Shared} (I : Inv X pins σ H s) (o : Obj) : HdAt X.A.in1 (s.heap.push o) := I.hdAt.keeps fun a o' _ q => Heap.get?_push_of_some _ q
theorem hdNew {pins : List (Addr × Obj)} {σ : St} {H : Hp} {s : Shared} (I : Inv X pins σ H s) : X.A.in1.handled ≠ some (.ref s.heap.objs.size) := I.hdNe (I.hok.fresh (Nat.le_refl _))
theorem bools_at {ks : List Bool} : ∀ {us : List Value}, Vals (ks.map V.bl) us → us = ks.map Value.bool := by
 induction ks with
 | nil => intro us r; cases r; rfl
 | cons k ks ih =>
  intro us r
  cases r with
  | cons a b => cases (show _ = Value.bool k from a); rw [ih b]; rfl
theorem all_range (ks : List Bool) : (List.range ks.length).all (fun i => ks.getD i true) = ks.all id := by
 induction ks with
 | nil => rfl
 | cons k r ih =>
  rw [List.length_cons, List.range_succ_eq_map, List.all_cons, List.all_cons, List.all_map]
  have e : (List.range r.length).all ((fun i => (k :: r).getD i true) ∘ Nat.succ) = (List.range r.length).all fun i => r.getD i true := by
   congr 1
  rw [e, ih]
  rfl
theorem call_all : CallR X (.builtin "all") (fun xs H Q => ∃ (p : Addr) (ks : List Bool), xs = [.ref p] ∧ SqL X.K H p (ks.map V.bl) ∧ Q (.bl (ks.all id)) H) := by
 intro pins s σ H xs us Q I r h
 obtain ⟨p, ks, rfl, hq, q⟩ := h
 obtain ⟨u, rfl, rx⟩ := vals1 r
 cases rx
 obtain ⟨its, rv, pl, hz⟩ := I.list hq
 have e := bools_at rv
 subst e
 have hne : p ≠ s.heap.objs.size := fun z => by
  obtain ⟨o, ho, _⟩ := pl.isList
  exact absurd (Heap.lt_size ho) (by rw [z]; exact Nat.lt_irrefl _)
 refine call_all_walk (wpAny_pyIter_list pl.isList ?_)
 refine ⟨s.heap.objs.size, _, _, _, _, _, fun i => ks.getD i true, rfl, walks_list (A := X.A.in1) s.heap.objs.size p hne (hdNew I) (ks.map Value.bool).toArray, ⟨⟨_, Heap.get?_push_size _ rfl, rfl, rfl⟩, ?_, hd1 I _⟩, fun i v s' Q' E' hv hQ => ?_, fun h' tk k => ?_⟩
 ·obtain ⟨o, ho, r'⟩ := pl.isList
  exact ⟨o, Heap.get?_push_of_some _ ho, r'⟩
 ·have hv' : (ks.map Value.bool)[i]? = some v := by simpa using hv
  rw [List.getElem?_map] at hv'
  cases ek : ks[i]? with
  | none => rw [ek] at hv'; cases hv'
  | some b =>
   rw [ek] at hv'
   cases hv'
   refine wpAny_truthy_bool ?_
   have : ks.getD i true = b := by simp [List.getD, ek]
   rw [← this]
   exact hQ
 ·refine ⟨.bl (ks.all id), H, ?_, ?_, q⟩
  ·refine I.kept fun b o z => k b o ?_ (Heap.get?_push_of_some _ z)
   intro hm
   have : b = s.heap.objs.size := by simpa using hm
   exact absurd (Heap.lt_size z) (by rw [this]; exact Nat.lt_irrefl _)
  ·show Value.bool _ = Value.bool _
   rw [List.size_toArray, List.length_map, all_range]
theorem ints_at {ns : List Int} : ∀ {us : List Value}, Vals (ns.map V.int) us → ∀ (i : Nat) (v : Value), us[i]? = some v → ∃ t, v = Value.int (ns.getD i 0) t := by
 induction ns with
 | nil => intro us r; cases r; intro i v h; simp at h
 | cons n ns ih =>
  intro us r
  cases r with
  | cons a b =>
   intro i v h
   cases i with
   | zero =>
    obtain ⟨t, ht⟩ := (show ∃ t, _ = Value.int n t from a)
    have : v = Value.int n t := by rw [← ht]; exact (Option.some.inj (by simpa using h)).symm
    exact ⟨t, this⟩
   | succ i =>
    obtain ⟨t, ht⟩ := ih b i v (by simpa using h)
    exact ⟨t, by simpa using ht⟩
theorem preSum_take (l : List Int) : ∀ j, preSum (fun i => l.getD i 0) j = (l.take j).sum
 | 0 => by simp [preSum]
 | j + 1 => by
  rw [preSum, preSum_take l j]
  by_cases h : j < l.length
  ·have e : l.take (j + 1) = l.take j ++ [l[j]] := by rw [List.take_add_one, List.getElem?_eq_getElem h]; rfl
   have e2 : l.getD j 0 = l[j] := by simp [List.getD, h]
   rw [e, List.sum_append, e2]
   simp
  ·rw [List.take_of_length_le (by omega), List.take_of_length_le (by omega)]
   have : l.getD j 0 = 0 := by simp [List.getD, List.getElem?_eq_none (Nat.le_of_not_lt h)]
   omega
theorem call_sum : CallR X (.builtin "sum") (fun xs H Q => ∃ (p : Addr) (ns : List Int), xs = [.ref p] ∧ SqL X.K H p (ns.map V.int) ∧ Q (.int ns.sum) H) := by
 intro pins s σ H xs us Q I r h
 obtain ⟨p, ns, rfl, hq, q⟩ := h
 obtain ⟨u, rfl, rx⟩ := vals1 r
 cases rx
 obtain ⟨its, rv, pl, hz⟩ := I.list hq
 have hl := rv.length
 rw [List.length_map] at hl
 have hne : p ≠ s.heap.objs.size := fun z => by
  obtain ⟨o, ho, _⟩ := pl.isList
  exact absurd (Heap.lt_size ho) (by rw [z]; exact Nat.lt_irrefl _)
 refine call_sum_walkG (wpAny_pyIter_list pl.isList ?_)
 refine ⟨s.heap.objs.size, _, _, _, _, _, fun i => ns.getD i 0, rfl, walks_list (A := X.A.in1) s.heap.objs.size p hne (hdNew I) its.toArray, ⟨⟨_, Heap.get?_push_size _ rfl, rfl, rfl⟩, ?_, hd1 I _⟩, fun b hb => ?_, fun i v hv => ints_at rv i v (by simpa using hv), fun h' tk t' k => ?_⟩
 ·obtain ⟨o, ho, r'⟩ := pl.isList
  exact ⟨o, Heap.get?_push_of_some _ ho, r'⟩
 ·rw [Heap.size_push]
  rcases List.mem_append.mp hb with hb | hb
  ·rcases List.mem_cons.mp hb with rfl | hb
   ·exact Nat.lt_succ_self _
   ·obtain rfl := List.mem_singleton.mp hb
    obtain ⟨o, ho, _⟩ := pl.isList
    exact Nat.lt_succ_of_lt (Heap.lt_size ho)
  ·unfold hdA at hb
   split at hb
   ·rename_i a ha
    obtain rfl := List.mem_singleton.mp hb
    rcases I.hdAt with z | ⟨a', o, vs, z, ho, _⟩
    ·have ha' : X.A.handled = some (.ref b) := ha
     rw [z] at ha'; cases ha'
    ·have ha' : X.A.handled = some (.ref b) := ha
     rw [z] at ha'; cases ha'
     exact Nat.lt_succ_of_lt (Heap.lt_size ho)
   ·exact nomatch hb
 ·refine ⟨.int ns.sum, H, ?_, ⟨t', ?_⟩, q⟩
  ·refine I.kept fun b o z => k b o ?_ (Heap.get?_push_of_some _ z)
   intro hm
   have : b = s.heap.objs.size := by simpa using hm
   exact absurd (Heap.lt_size z) (by rw [this]; exact Nat.lt_irrefl _)
  ·rw [preSum_take, List.size_toArray, ← hl, List.take_of_length_le (Nat.le_refl _)]
noncomputable def eqVs : List V → List V → Bool
 | [], [] => true
 | x :: xs, y :: ys => eqV x y && eqVs xs ys
 | _, _ => false
theorem eqVs_len : ∀ {xs ys : List V}, xs.length ≠ ys.length → eqVs xs ys = false
 | [], [], h => absurd rfl h
 | [], _ :: _, _ => rfl
 | _ :: _, [], _ => rfl
 | x :: xs, y :: ys, h => by rw [eqVs, eqVs_len (fun e => h (by simp [e])), Bool.and_false]
theorem eqVs_all : ∀ {xs ys : List V}, xs.length = ys.length → (List.range xs.length).all (fun i => eqV (xs.getD i .non) (ys.getD i .non)) = eqVs xs ys
 | [], [], _ => rfl
 | x :: xs, y :: ys, h => by
  have ih := eqVs_all (xs := xs) (ys := ys) (by simpa using h)
  rw [List.length_cons, List.range_succ_eq_map, List.all_cons, List.all_map, eqVs, ← ih]
  rfl
theorem vals_getD {xs : List V} {us : List Value} (r : Vals xs us) (f : xs.all flatV = true) {i : Nat} {u : Value} (h : us[i]? = some u) : RelV (xs.getD i .non) u ∧ flatV (xs.getD i .non) = true := by
 have hl := r.length
 have hi : i < xs.length := by rw [hl]; exact (List.getElem?_eq_some_iff.mp h).1
 obtain ⟨u', h', r'⟩ := r.get (i := i) (x := xs[i]) (by simp [hi])
 rw [h] at h'; cases h'
 have e : xs.getD i .non = xs[i] := by simp [List.getD, hi]
 rw [e]
 exact ⟨r', List.all_eq_true.mp f _ (List.getElem_mem hi)⟩
noncomputable def rEqL (K : PySem.W.Frag) : R2 := fun x y H Q => ∃ p q xs ys, x = .ref p ∧ y = .ref q ∧ SqL K H p xs ∧ SqL K H q ys ∧ xs.all flatV = true ∧ ys.all flatV = true ∧ Q (.bl (eqVs xs ys)) H
noncomputable def rNeL (K : PySem.W.Frag) : R2 := fun x y H Q => ∃ p q xs ys, x = .ref p ∧ y = .ref q ∧ SqL K H p xs ∧ SqL K H q ys ∧ xs.all flatV = true ∧ ys.all flatV = true ∧ Q (.bl (!eqVs xs ys)) H
theorem items_eqAt {A : Around} {s : Shared} {xs ys : List V} {us ws : List Value} (r : Vals xs us) (r' : Vals ys ws) (f : xs.all flatV = true) (f' : ys.all flatV = true) (j : Nat) (h1 : j < us.toArray.size) (h2 : j < ws.toArray.size) :
  SeqAt.EqAt A s us.toArray[j] ws.toArray[j] (eqV (xs.getD j .non) (ys.getD j .non)) := by
 obtain ⟨a1, a2⟩ := vals_getD r f (i := j) (u := us.toArray[j]) (by rw [List.getElem_toArray]; exact List.getElem?_eq_getElem _)
 obtain ⟨b1, b2⟩ := vals_getD r' f' (i := j) (u := ws.toArray[j]) (by rw [List.getElem_toArray]; exact List.getElem?_eq_getElem _)
 exact eqAt_V a1 b1 a2 b2
theorem op_eqL (hu : X.A.units < cLine) : OpR X (compareOp .Eq) (rEqL X.K) := by
 intro pins s σ H x y v u Q I rx ry h
 obtain ⟨p, q, xs, ys, rfl, rfl, hx, hy, fx, fy, k⟩ := h
 cases rx
 cases ry
 obtain ⟨us, r, pl, _⟩ := I.list hx
 obtain ⟨ws, r', pl', _⟩ := I.list hy
 have l1 := r.length
 have l2 := r'.length
 by_cases hl : xs.length = ys.length
 ·refine SeqAt.eq_listAt (e := fun j => eqV (xs.getD j .non) (ys.getD j .non)) pl.isList pl'.isList (by simp [← l1, ← l2, hl]) hu (fun j h1 h2 => items_eqAt r r' fx fy j h1 h2) ⟨.bl _, H, I, rfl, ?_⟩
  rw [List.size_toArray, ← l1, eqVs_all hl]
  exact k
 ·refine SeqAt.eq_list_lengthsAt pl.isList pl'.isList (by simp [← l1, ← l2, hl]) hu ⟨.bl _, H, I, rfl, ?_⟩
  rw [eqVs_len hl] at k
  exact k
theorem op_neL (hu : X.A.units < cLine) : OpR X (compareOp .NotEq) (rNeL X.K) := by
 intro pins s σ H x y v u Q I rx ry h
 obtain ⟨p, q, xs, ys, rfl, rfl, hx, hy, fx, fy, k⟩ := h
 cases rx
 cases ry
 obtain ⟨us, r, pl, _⟩ := I.list hx
 obtain ⟨ws, r', pl', _⟩ := I.list hy
 have l1 := r.length
 have l2 := r'.length
 by_cases hl : xs.length = ys.length
 ·refine SeqAt.RcNeAt.lists (e := fun j => eqV (xs.getD j .non) (ys.getD j .non)) pl.isList pl'.isList (by simp [← l1, ← l2, hl]) hu (fun j h1 h2 => items_eqAt r r' fx fy j h1 h2) _ _ _ _ ⟨.bl _, H, I, rfl, ?_⟩
  rw [List.size_toArray, ← l1, eqVs_all hl]
  exact k
 ·refine SeqAt.RcNeAt.lists_lengths pl.isList pl'.isList (by simp [← l1, ← l2, hl]) hu _ _ _ _ ⟨.bl _, H, I, rfl, ?_⟩
  rw [eqVs_len hl] at k
  exact k
noncomputable def rRepT (K : PySem.W.Frag) : R2 := fun x y H Q => ∃ l k xs, x = .ref l ∧ y = .int k ∧ SqT K H l xs ∧ xs ≠ [] ∧ 1 < k ∧ k < 2 ^ 63 ∧ xs.length * k.toNat ≤ sizeLine ∧ ∀ p, H p = none → Q (.ref p) (upd H p (.tup (List.replicate k.toNat xs).flatten))
noncomputable def rIndex : V → List V → Hp → VK → Prop := fun x vs H Q => ∃ l xs y j, x = .ref l ∧ vs = [y] ∧ H l = some (.lst xs) ∧ xs.all flatV = true ∧ flatV y = true ∧ xs.findIdx? (fun z => eqV z y) = some j ∧ Q (.int j) H
theorem mt_index : MtM X "list.index" rIndex := by
 intro pins s σ H x vs v us Q I rx rv h
 obtain ⟨l, xs, y, j, rfl, rfl, hH, fx, fy, hj, q⟩ := h
 cases rx
 obtain ⟨u, rfl, ru⟩ := rv.one
 obtain ⟨z, its, n, r, hl, e⟩ := I.lstM hH
 obtain ⟨hlt, hp, hbef⟩ := List.findIdx?_eq_some_iff_getElem.mp hj
 have get : ∀ (i : Nat) (h : i < xs.length), ∃ (h' : i < its.length), RelV xs[i] its[i] := fun i h => by
  obtain ⟨w, e1, e2⟩ := r.get (i := i) (x := xs[i]) (by simp [h])
  obtain ⟨h', e3⟩ := List.getElem?_eq_some_iff.mp e1
  exact ⟨h', by rw [e3]; exact e2⟩
 have fl : ∀ (i : Nat) (h : i < xs.length), flatV xs[i] = true := fun i h => List.all_eq_true.mp fx _ (List.getElem_mem h)
 obtain ⟨hj', rj⟩ := get j hlt
 refine call_meets PySem.F.slot_list_index ⟨_, e, rfl⟩ PySem.F.entry_list_index (PySem.F.args_list_index_2 _ _)
  (SeqAt.list_indexAt l its.toArray n none #[] u (eqU y) j (by simpa using hj') (by have := sizeLine_eq; omega) ?_ ?_) ⟨e, fun w hw => mem_eqAt ru fy r fx w (by simpa using hw), ⟨.int j, H, I.tok _, ⟨_, rfl⟩, q⟩⟩
 ·rw [List.getElem_toArray, eqU_of rj (fl j hlt)]
  exact hp
 ·intro i _ hi
  have hi' : i < xs.length := by omega
  obtain ⟨_, ri⟩ := get i hi'
  rw [List.getElem_toArray, eqU_of ri (fl i hi')]
  have := hbef i hi
  simpa using this
end
end L2
namespace L2
open PySem PySem.Spec PyProof.Rows
structure ExcK (K : PySem.W.Frag) (C : Addr) : Prop where
 ga : PySem.W.findIn K (.ref C) "__getattribute__" = some (some (.builtin "BaseException.__getattribute__"))
 na : PySem.W.findIn K (.ref C) "__getattr__" = some none
 ca : PySem.W.findIn K (.ref C) "__class__" = some (some (.builtin "object.__class__"))
 cg : PySem.W.specialIn K (.builtin "object.__class__") "__get__" = some (some (.builtin "getset_descriptor.__get__"))
 ct : PySem.W.takesIn K (.builtin "object.__class__") = some true
 mo : PySem.W.mroIn K C (.type "object") = some true
 mb : PySem.W.mroIn K C (.type "BaseException") = some true
 hd : PySem.W.hasDictIn K C = true
section
open PySem.W
variable {prog : Program} {w : World} {A : Around} {E : Value → Shared → Prop} {s : Shared} {K : PySem.W.Frag} {x C : Addr} {ox : Obj}
theorem exc_class {Q : Option Value → Shared → Prop} (F0 : ExcK K C) (X : K.In s.heap) (I : PySem.W.InstAt s.heap x ox C none) (h : Q (some (.ref C)) { s with toks := s.toks + 1 }) : wpAny (model prog w) A (getAttr? (.ref x) "__class__") Q E s := by
 obtain ⟨hh, g, d, t, os⟩ := s
 have L0 := I.type (M := model prog w)
 have L1 := looks_findIn (M := model prog w) X F0.ga
 have L2 := looks_findIn (M := model prog w) X F0.na
 have hc : (clsIn K C).isSome = true := by obtain ⟨cd, hc, _⟩ := any_some F0.hd; rw [hc]; rfl
 have hf : findObj K C none "__class__" = some (.bind (.builtin "getset_descriptor.__get__") (.builtin "object.__class__")) := by
  obtain ⟨cd, hc⟩ := Option.isSome_iff_exists.mp hc
  unfold findObj
  rw [hc, Option.bind_some, F0.ca, Option.bind_some]
  simp [F0.cg, F0.ct]
 have L3 := looks_find (M := model prog w) X I hf
 have L4 : Looks (model prog w) hh (isInstance (.ref x) (.type "BaseException")) true := L0.andThen (looks_mroIn X F0.mb)
 unfold getAttr? getAttrBy? getAttrBy
 refine wpAny_bind (wpAny_mkText (wpAny_bind (wpAny_attempt (wpAny_holding (wpAny_bind (L0.at (wpAny_bind (L1.at ?_))))))))
 show wpAny _ _ (if (onTheHeap (Value.ref C) && Value.builtin "BaseException.__getattribute__" == Value.builtin "object.__getattribute__") = true then _ else _) _ _ _
 rw [show (onTheHeap (Value.ref C) && Value.builtin "BaseException.__getattribute__" == Value.builtin "object.__getattribute__") = false from by rw [show (Value.builtin "BaseException.__getattribute__" == Value.builtin "object.__getattribute__") = false from by decide +kernel, Bool.and_false], if_neg Bool.false_ne_true]
 unfold getAttrByItsOwn hookBefore
 refine wpAny_bind ?_
 show wpAny _ _ (typeLookup (.ref C) "__getattr__") _ _ _
 refine L2.at ?_
 refine wpAny_bind (wpAny_attempt (wpAny_holding ?_))
 unfold callGetattribute
 rw [if_neg (by decide)]
 unfold boundAndCalled
 refine wpAny_bind (wpAny_of_eq (PySem.F.attr_ValueError.ga.bind (.ref x)) ?_)
 show wpAny _ _ (call (.builtin "BaseException.__getattribute__") [.ref x, .str "__class__" t]) _ _ _
 refine wpAny_call (codeAny_call_builtin PySem.F.attr_ValueError.ga.plain PySem.F.entry_bexc_ga ?_)
 have hk : builtinKind "BaseException.__getattribute__" = some .slot := by decide +kernel
 have hsplit : splitId "BaseException.__getattribute__" = some ("BaseException", "__getattribute__") := by decide +kernel
 have ha := PySem.F.args_bexc_ga (.ref x) (.str "__class__" t)
 simp only [checkBuiltinCall, hk, hsplit]
 refine wpAny_bind (L4.at ?_)
 simp only [Bool.not_true, Bool.false_eq_true, if_false]
 refine wpAny_of_eq (a := ()) ha ?_
 unfold Builtin.«object.__getattribute__»
 repeat lk
 refine wpAny_run (c := .call (.builtin "getset_descriptor.__get__") ⟨[.builtin "object.__class__", .ref x, .ref C], []⟩) (h := none) (class_get (K := K) (C := C) (ox := ox) (od := none) X I F0.mo ?_) (by intro z; cases z)
 refine wpAny_pure ?_
 refine wpAny_pure ?_
 exact handed_on rfl (wpAny_pure h)
theorem kitx_exc (F0 : ExcK K C) : PySem.W.KitX K (.ref x) (.ref C) (fun h => ∃ o, h.get? x = some o ∧ ExcObj C o) where
 ty := fun M h _ ⟨o, ho, ⟨⟨hc, _⟩, _⟩⟩ => hc ▸ (Looks.ld ho).andThen .now
 it := fun _ _ X _ => by
  obtain ⟨cdD, hcD, _⟩ := any_some F0.hd
  unfold clsIn at hcD
  split at hcD
  ·rename_i c' d' cd' sl' ho
   intro A' Q' E' s' k q
   unfold isType loadHead
   exact wpAny_bind (wpAny_loadPart (k _ _ (X _ _ ho)) (wpAny_pure q))
  ·cases hcD
 ne := fun h tp dd its n sl X htp => by
  obtain ⟨cdD, hcD, _⟩ := any_some F0.hd
  refine Bool.eq_false_iff.mpr fun q => ?_
  have e : C = tp := Value.ref.inj (beq_iff_eq.mp q)
  subst e
  unfold clsIn at hcD
  split at hcD
  ·rename_i c' d' cd' sl' ho
   have z := (X _ _ ho).symm.trans htp
   cases z
  ·cases hcD
 ca := fun {prog w A E Q s} X ⟨o, ho, ⟨⟨hc, hdn⟩, vs, hd, _⟩⟩ k => exc_class (ox := o) F0 X ⟨ho, hc, by unfold notCls; rw [hd], by rw [hdn]; trivial⟩ k
end
noncomputable def ExcV (H : Hp) (x : V) (C : Addr) : Prop := ∃ a o, x = .ref a ∧ H a = some (frzE o) ∧ ExcObj C o
theorem call_isiE {X : Cx} : CallR X (.builtin "isinstance") (fun xs H Q => ∃ x c C b, xs = [x, c] ∧ ExcV H x C ∧ ExcK X.K C ∧ (∀ u, RelV c u → PySem.W.kitOne X.K (.ref C) u = some b) ∧ Q (.bl b) H) := by
 intro pins s σ H xs us Q I r h
 obtain ⟨x, c, C, b, rfl, ⟨a, o, rfl, ha, hx⟩, F0, hk, q⟩ := h
 obtain ⟨u, w', rfl, rx, rc⟩ := vals2 r
 cases rx
 exact PySem.W.kia_one (kitx_exc F0) I.kIn ⟨o, (I.hok a _ ha).1, hx⟩ (hk w' rc) (fun z => nomatch z) fun tk => ⟨.bl b, H, I.tok tk, rfl, q⟩
section
end
end L2
namespace L2
open PySem PySem.Spec PyProof.Rows
theorem bt_isinstance : bootBuiltins "isinstance" = some (.builtin "isinstance") := by decide +kernel
theorem bt_len : bootBuiltins "len" = some (.builtin "len") := by decide +kernel
theorem bt_all : bootBuiltins "all" = some (.builtin "all") := by decide +kernel
theorem bt_sum : bootBuiltins "sum" = some (.builtin "sum") := by decide +kernel
theorem bt_max : bootBuiltins "max" = some (.builtin "max") := by decide +kernel
theorem bt_min : bootBuiltins "min" = some (.builtin "min") := by decide +kernel
theorem bt_bool : bootBuiltins "bool" = some (.type "bool") := by decide +kernel
theorem bt_int : bootBuiltins "int" = some (.type "int") := by decide +kernel
theorem bt_str : bootBuiltins "str" = some (.type "str") := by decide +kernel
theorem bt_tuple : bootBuiltins "tuple" = some (.type "tuple") := by decide +kernel
theorem bt_list : bootBuiltins "list" = some (.type "list") := by decide +kernel
theorem bt_ValueError : bootBuiltins "ValueError" = some (.type "ValueError") := by decide +kernel
theorem pe_ty {X : Cx} {x : Str} {n : String} {pos : Pos} (hm : X.mg x = none) (hv : bootBuiltins x = some (.type n)) (hg : Gl X x := by rfl) (hn : x ≠ "__name__" := by decide) (hd : (x == ("__debug__" : Str)) = false := by decide) : PE X (.Name x pos) (tC (.ty n)) :=
 pe_bltn hg hm hv (v := .ty n) rfl hn hd
theorem pe_cls {X : Cx} {x : Str} {C : Addr} {pos : Pos} (hm : X.mg x = some (.ref C)) (hg : Gl X x := by rfl) (hd : (x == ("__debug__" : Str)) = false := by decide) : PE X (.Name x pos) (tC (.ref C)) :=
 pe_glob hg hm (v := .ref C) rfl hd
theorem pe_const {X : Cx} {x : Str} {v : V} {pos : Pos} (h : ∃ u, X.mg x = some u ∧ RelV v u) (hg : Gl X x := by rfl) (hd : (x == ("__debug__" : Str)) = false := by decide) : PE X (.Name x pos) (tC v) := by
 obtain ⟨u, hm, r⟩ := h
 exact pe_glob hg hm r hd
theorem Same.new {H : Hp} {p : Addr} (h : H p = none) (o : HO) : Same H (upd H p o) := fun b u q => by rw [upd_ne (ne_of_none q h)]; exact q
theorem Same.upd {H H' : Hp} (s : Same H H') {p : Addr} {o : HO} (h : H p = none) (e : H' p = some o) (o' : HO) : Same H (upd H' p o') := fun b u q => by
 rw [upd_ne (fun z => by rw [z, h] at q; cases q)]; exact s b u q
theorem Same.seqT {K : PySem.W.Frag} {H H' : Hp} {a : Addr} {xs : List V} (e : Same H H') (h : SqT K H a xs) : SqT K H' a xs := by
 rcases h with (h | ⟨o, h⟩) | h
 ·exact .inl (.inl (e _ _ h))
 ·exact .inl (.inr ⟨o, e _ _ h⟩)
 ·exact .inr h
theorem small {n : Nat} (h : n ≤ 1000) : n ≤ sizeLine := Nat.le_of_lt (small1000 h)
inductive Ty6 where | non | bl | int | str | lst | tup
noncomputable def Ty6.nm : Ty6 → String
 | .non => "NoneType" | .bl => "bool" | .int => "int" | .str => "str" | .lst => "list" | .tup => "tuple"
noncomputable def Ty6.isB : Ty6 → Bool | .bl => true | _ => false
noncomputable def Ty6.isI : Ty6 → Bool | .bl => true | .int => true | _ => false
noncomputable def Ty6.isT : Ty6 → Bool | .tup => true | _ => false
noncomputable def Ty6.isS : Ty6 → Bool | .str => true | _ => false
inductive Kn (H : Hp) : V → Ty6 → Prop where
 | non : Kn H .non .non
 | bl (b : Bool) : Kn H (.bl b) .bl
 | int (i : Int) : Kn H (.int i) .int
 | str (x : Str) : Kn H (.str x) .str
 | lst {a : Addr} {xs : List V} (e : H a = some (.lst xs)) : Kn H (.ref a) .lst
 | tup {a : Addr} {xs : List V} (e : H a = some (.tup xs)) : Kn H (.ref a) .tup
theorem Kn.ty {K : PySem.W.Frag} {H : Hp} {x : V} {T : Ty6} (h : Kn H x T) : TyOf K H x (.type T.nm) := by
 cases h with
 | non => exact .non
 | bl b => exact .bl b
 | int i => exact .int i
 | str x => exact .str x
 | lst e => exact .lst e
 | tup e => exact .tup e
theorem Kn.same {H H' : Hp} {x : V} {T : Ty6} (s : Same H H') (h : Kn H x T) : Kn H' x T := by
 cases h with
 | non => exact .non
 | bl b => exact .bl b
 | int i => exact .int i
 | str x => exact .str x
 | lst e => exact .lst (s _ _ e)
 | tup e => exact .tup (s _ _ e)
theorem kit_bool {K : PySem.W.Frag} (T : Ty6) : ∀ u, RelV (.ty "bool") u → PySem.W.kitOne K (.type T.nm) u = some T.isB := fun u e => by cases e; cases T <;> kernel_rfl
theorem kit_int {K : PySem.W.Frag} (T : Ty6) : ∀ u, RelV (.ty "int") u → PySem.W.kitOne K (.type T.nm) u = some T.isI := fun u e => by cases e; cases T <;> kernel_rfl
theorem kit_tuple {K : PySem.W.Frag} (T : Ty6) : ∀ u, RelV (.ty "tuple") u → PySem.W.kitOne K (.type T.nm) u = some T.isT := fun u e => by cases e; cases T <;> kernel_rfl
theorem kit_str {K : PySem.W.Frag} (T : Ty6) : ∀ u, RelV (.ty "str") u → PySem.W.kitOne K (.type T.nm) u = some T.isS := fun u e => by cases e; cases T <;> kernel_rfl
end L2
namespace L2
open PySem PySem.Spec PyProof.Rows
theorem SqT.upd {K : PySem.W.Frag} {H : Hp} {a D : Addr} {xs : List V} {o : HO} (h : SqT K H a xs) (hD : H D = none) : SqT K (upd H D o) a xs := (Same.new hD o).seqT h
theorem SqL.upd {K : PySem.W.Frag} {H : Hp} {a D : Addr} {xs : List V} {o : HO} (h : SqL K H a xs) (hD : H D = none) : SqL K (upd H D o) a xs := (Same.new hD o).seq h
theorem comp_map {J : It} {caps : List (Option Nat)} {j : Nat} {te : TE} {σ : St} {H1 : Hp} {D : Addr} {Q : VK} (n : Nat) (g f : Nat → V) (hn : n ≤ 100000)
  (hgo : ∀ i ys, i < n → J.go i (upd H1 D (.lst ys))) (hstop : ∀ ys, J.stop n (upd H1 D (.lst ys))) (hy : ∀ i ys x H3, i < n → J.yld i (upd H1 D (.lst ys)) x H3 → H3 = upd H1 D (.lst ys) ∧ x = g i)
  (hs : ∀ i ys Q', i < n → Q' (f i) (upd H1 D (.lst ys)) → te ((capOf caps σ).set j (some (g i))) (upd H1 D (.lst ys)) Q') (hq : Q (.ref D) (upd H1 D (.lst ((List.range n).map f)))) :
  CompW J caps j tYes te σ H1 D Q := by
 refine ⟨fun i m H2 => m = n - i ∧ i ≤ n ∧ H2 = upd H1 D (.lst ((List.range i).map f)), ⟨n, by simp, Nat.zero_le _, rfl⟩, ?_⟩
 rintro i m H2 ⟨rfl, hi, rfl⟩
 by_cases hlt : i < n
 ·refine .inr ⟨hgo i _ hlt, fun x H3 hx => ?_⟩
  obtain ⟨rfl, rfl⟩ := hy i _ x H3 hlt hx
  unfold tYes
  dsimp only
  rw [if_pos rfl]
  refine hs i _ _ hlt ⟨_, upd_same, ?_, n - (i + 1), by omega, rfl, hlt, ?_⟩
  ·rw [List.length_map, List.length_range]
   exact Nat.lt_of_lt_of_le hlt (Nat.le_trans hn (by decide))
  ·rw [upd_upd, List.range_succ, List.map_append]
   rfl
 ·have e : i = n := by omega
  subst e
  exact .inl ⟨hstop _, hq⟩
theorem range_getD {xs : List V} (f : V → V) : (List.range xs.length).map (fun i => f (xs.getD i .non)) = xs.map f := by
 apply List.ext_getElem?
 intro i
 rw [List.getElem?_map, List.getElem?_map]
 by_cases h : i < xs.length
 ·rw [List.getElem?_range h, List.getElem?_eq_getElem h]
  simp [List.getD, h]
 ·rw [List.getElem?_eq_none (by rw [List.length_range]; exact Nat.le_of_not_lt h), List.getElem?_eq_none (Nat.le_of_not_lt h)]; rfl
theorem comp_tup {K : PySem.W.Frag} {a : Addr} {xs : List V} {caps : List (Option Nat)} {j : Nat} {te : TE} {σ : St} {H1 : Hp} {D : Addr} {Q : VK} (f : V → V) (hS : SqT K H1 a xs) (hD : H1 D = none) (hn : xs.length ≤ 100000)
  (hs : ∀ x ys Q', x ∈ xs → Q' (f x) (upd H1 D (.lst ys)) → te ((capOf caps σ).set j (some x)) (upd H1 D (.lst ys)) Q') (hq : Q (.ref D) (upd H1 D (.lst (xs.map f)))) :
  CompW (Itt K a) caps j tYes te σ H1 D Q := by
 refine comp_map xs.length (fun i => xs.getD i .non) (fun i => f (xs.getD i .non)) hn (fun i ys hi => ⟨xs, xs[i], hS.upd hD, by simp [hi]⟩) (fun ys => ⟨xs, hS.upd hD, Nat.le_refl _⟩) (fun i ys x H3 hi hx => ?_) (fun i ys Q' hi hQ => ?_) (by rw [range_getD]; exact hq)
 ·obtain ⟨e, z⟩ := hx
  have := z xs (hS.upd hD)
  refine ⟨e, ?_⟩
  rw [List.getElem?_eq_getElem hi] at this
  rw [← Option.some.inj this]
  simp [List.getD, hi]
 ·have e : xs.getD i .non = xs[i] := by simp [List.getD, hi]
  rw [e] at hQ ⊢
  exact hs _ ys Q' (List.getElem_mem hi) hQ
theorem comp_list {K : PySem.W.Frag} {a : Addr} {xs : List V} {caps : List (Option Nat)} {j : Nat} {te : TE} {σ : St} {H1 : Hp} {D : Addr} {Q : VK} (f : V → V) (hS : SqL K H1 a xs) (hD : H1 D = none) (hn : xs.length ≤ 100000)
  (hs : ∀ x ys Q', x ∈ xs → Q' (f x) (upd H1 D (.lst ys)) → te ((capOf caps σ).set j (some x)) (upd H1 D (.lst ys)) Q') (hq : Q (.ref D) (upd H1 D (.lst (xs.map f)))) :
  CompW (Itl K a) caps j tYes te σ H1 D Q := by
 refine comp_map xs.length (fun i => xs.getD i .non) (fun i => f (xs.getD i .non)) hn (fun i ys hi => ⟨xs, xs[i], hS.upd hD, by simp [hi]⟩) (fun ys => ⟨xs, hS.upd hD, Nat.le_refl _⟩) (fun i ys x H3 hi hx => ?_) (fun i ys Q' hi hQ => ?_) (by rw [range_getD]; exact hq)
 ·obtain ⟨e, z⟩ := hx
  have := z xs (hS.upd hD)
  refine ⟨e, ?_⟩
  rw [List.getElem?_eq_getElem hi] at this
  rw [← Option.some.inj this]
  simp [List.getD, hi]
 ·have e : xs.getD i .non = xs[i] := by simp [List.getD, hi]
  rw [e] at hQ ⊢
  exact hs _ ys Q' (List.getElem_mem hi) hQ
end L2
namespace L2
open PySem PySem.Spec PyProof.Rows
theorem comp_rangeG {lo : Int} {n : Nat} {caps : List (Option Nat)} {j : Nat} {te : TE} {σ : St} {H1 : Hp} {D : Addr} {Q : VK} (R : Nat → V → Prop) (hD : H1 D = none) (hn : n ≤ 100000)
  (hs : ∀ (i : Nat) ys H2 Q', i < n → Same H1 H2 → H2 D = some (.lst ys) → (∀ v H3, R i v → Same H2 H3 → Q' v H3) → te ((capOf caps σ).set j (some (.int (lo + i)))) H2 Q')
  (hq : ∀ H2 ys, Same H1 H2 → H2 D = some (.lst ys) → ys.length = n → (∀ i y, ys[i]? = some y → R i y) → Q (.ref D) H2) :
  CompW (Itr lo n) caps j tYes te σ H1 D Q := by
 refine ⟨fun i m H2 => m = n - i ∧ i ≤ n ∧ Same H1 H2 ∧ ∃ ys, H2 D = some (.lst ys) ∧ ys.length = i ∧ ∀ k y, ys[k]? = some y → R k y, ⟨n, by simp, Nat.zero_le _, Same.new hD _, [], upd_same, rfl, fun k y e => by simp at e⟩, ?_⟩
 rintro i m H2 ⟨rfl, hi, sm, ys, hys, hl, hR⟩
 by_cases hlt : i < n
 ·refine .inr ⟨hlt, fun x H3 hx => ?_⟩
  obtain ⟨rfl, rfl⟩ := hx
  unfold tYes
  dsimp only
  rw [if_pos rfl]
  refine hs i ys _ _ hlt sm hys fun v H3 rv s3 => ⟨ys, s3 _ _ hys, ?_, n - (i + 1), by omega, rfl, hlt, (sm.trans s3).upd hD (s3 _ _ hys) _, ys ++ [v], upd_same, by simp [hl], fun k y e => ?_⟩
  ·rw [hl]
   exact Nat.lt_of_lt_of_le hlt (Nat.le_trans hn (by decide))
  ·by_cases hk : k < ys.length
   ·rw [List.getElem?_append_left hk] at e
    exact hR k y e
   ·rw [List.getElem?_append_right (by omega)] at e
    by_cases hk2 : k = ys.length
    ·subst hk2
     simp at e
     subst e
     rw [hl]
     exact rv
    ·rw [List.getElem?_eq_none (by simp; omega)] at e
     cases e
 ·have e : i = n := by omega
  subst e
  exact .inl ⟨Nat.le_refl _, hq H2 ys sm hys hl hR⟩
theorem ix_listK {X : Cx} {K : PySem.W.Frag} (h : X.K = K) : IxR X (rIxL K) := h ▸ ix_list
end L2
namespace L2
open PySem PySem.Spec PyProof.Rows
noncomputable def visOk (sc : Scope) (x : Str) : Bool := (decide (sc.names.lookup x = some .local) || decide (sc.names.lookup x = some .cell) || decide (sc.names.lookup x = some .free)) && !(x == ("__debug__" : Str)) && !(x == ("__classdict__" : Str))
noncomputable def locOk (sc : Scope) (x : Str) : Bool := decide (sc.names.lookup x = some .local) || decide (sc.names.lookup x = some .cell)
noncomputable def gloOk (sc : Scope) (x : Str) : Bool := decide (sc.names.lookup x = some .globalImplicit) && !(x == ("__debug__" : Str)) && !(decide (x = ("__name__" : Str)))
structure Vs (N : List Str) (sc : Scope) : Prop where
 vis : ∀ (i : Nat) (x : Str), N[i]? = some x → Vis sc x
 dbg : ∀ (i : Nat) (x : Str), N[i]? = some x → (x == ("__debug__" : Str)) = false
 cdt : ∀ (i : Nat) (x : Str), N[i]? = some x → (x == ("__classdict__" : Str)) = false
structure Ls (N : List Str) (sc : Scope) : Prop where
 nd : N.Nodup
 loc : ∀ (i : Nat) (x : Str), N[i]? = some x → Loc sc x
structure Gs (N : List Str) (sc : Scope) : Prop where
 gl : ∀ (i : Nat) (x : Str), N[i]? = some x → sc.names.lookup x = some .globalImplicit
 dbg : ∀ (i : Nat) (x : Str), N[i]? = some x → (x == ("__debug__" : Str)) = false
 nn : ∀ (i : Nat) (x : Str), N[i]? = some x → x ≠ ("__name__" : Str)
theorem all_at {N : List Str} {p : Str → Bool} (h : N.all p = true) {i : Nat} {x : Str} (e : N[i]? = some x) : p x = true := List.all_eq_true.mp h x (List.mem_of_getElem? e)
theorem Vs.of {N : List Str} {sc : Scope} (h : N.all (visOk sc) = true) : Vs N sc := by
 have k : ∀ (i : Nat) (x : Str), N[i]? = some x → Vis sc x ∧ (x == ("__debug__" : Str)) = false ∧ (x == ("__classdict__" : Str)) = false := fun i x e => by
  have := all_at h e
  simp only [visOk, Bool.and_eq_true, Bool.or_eq_true, decide_eq_true_eq, Bool.not_eq_true'] at this
  obtain ⟨⟨a, b⟩, c⟩ := this
  exact ⟨by rcases a with (a | a) | a <;> simp [Vis, a], b, c⟩
 exact ⟨fun i x e => (k i x e).1, fun i x e => (k i x e).2.1, fun i x e => (k i x e).2.2⟩
theorem Ls.of {N : List Str} {sc : Scope} (nd : N.Nodup) (h : N.all (locOk sc) = true) : Ls N sc := ⟨nd, fun i x e => by
 have := all_at h e
 simp only [locOk, Bool.or_eq_true, decide_eq_true_eq] at this
 exact this⟩
theorem Gs.of {N : List Str} {sc : Scope} (h : N.all (gloOk sc) = true) : Gs N sc := by
 have k : ∀ (i : Nat) (x : Str), N[i]? = some x → sc.names.lookup x = some .globalImplicit ∧ (x == ("__debug__" : Str)) = false ∧ x ≠ ("__name__" : Str) := fun i x e => by
  have := all_at h e
  simp only [gloOk, Bool.and_eq_true, decide_eq_true_eq, Bool.not_eq_true', decide_eq_false_iff_not] at this
  exact ⟨this.1.1, this.1.2, this.2⟩
 exact ⟨fun i x e => (k i x e).1, fun i x e => (k i x e).2.1, fun i x e => (k i x e).2.2⟩
theorem relabel_fwd {env : Env} : ∀ {names : List (Str × NameKind)} {x : Str} {k : NameKind}, names.lookup x = some k →
  (names.map fun (n, k) => if (k == NameKind.free && env.scope.kind == .function && env.kindOf n == some .cell) then (n, NameKind.cell) else (n, k)).lookup x = some k ∨
  (k = .free ∧ (names.map fun (n, k) => if (k == NameKind.free && env.scope.kind == .function && env.kindOf n == some .cell) then (n, NameKind.cell) else (n, k)).lookup x = some .cell)
 | [], _, _, h => by simp at h
 | (n, k') :: r, x, k, h => by
  have ih := @relabel_fwd env r x k
  rw [List.map_cons]
  rw [List.lookup_cons] at h
  by_cases hc : (k' == NameKind.free && env.scope.kind == .function && env.kindOf n == some .cell) = true
  ·have e : (match (n, k') with | (n, k) => if (k == NameKind.free && env.scope.kind == .function && env.kindOf n == some .cell) = true then (n, NameKind.cell) else (n, k)) = (n, NameKind.cell) := by dsimp only; rw [if_pos hc]
   rw [e, List.lookup_cons]
   cases hx : x == n with
   | true =>
    rw [hx] at h
    cases h
    simp only [Bool.and_eq_true, beq_iff_eq] at hc
    exact .inr ⟨hc.1.1, rfl⟩
   | false => rw [hx] at h; exact ih h
  ·have e : (match (n, k') with | (n, k) => if (k == NameKind.free && env.scope.kind == .function && env.kindOf n == some .cell) = true then (n, NameKind.cell) else (n, k)) = (n, k') := by dsimp only; rw [if_neg hc]
   rw [e, List.lookup_cons]
   cases hx : x == n with
   | true => rw [hx] at h; exact .inl h
   | false => rw [hx] at h; exact ih h
theorem Vs.re {N : List Str} {sc : Scope} (V : Vs N sc) (env : Env) : Vs N (relabel sc env) := ⟨fun i x e => by
 rcases V.vis i x e with h | h | h
 ·rcases relabel_fwd (env := env) h with q | q
  ·exact .inl q
  ·exact absurd q.1 (by decide)
 ·rcases relabel_fwd (env := env) h with q | q
  ·exact .inr (.inl q)
  ·exact absurd q.1 (by decide)
 ·rcases relabel_fwd (env := env) h with q | q
  ·exact .inr (.inr q)
  ·exact .inr (.inl q.2), V.dbg, V.cdt⟩
theorem Gs.re {N : List Str} {sc : Scope} (V : Gs N sc) (env : Env) : Gs N (relabel sc env) := ⟨fun i x e => by
 rcases relabel_fwd (env := env) (V.gl i x e) with q | q
 ·exact q
 ·exact absurd q.1 (by decide), V.dbg, V.nn⟩
section
variable {X : Cx} {N L : List Str} {sc : Scope} {x : Str} {pos p : Pos}
theorem glX (G : Gs L sc) {i : Nat} (hL : L[i]? = some x) (h2 : X.env.scope = sc) : Gl X x := by
 unfold Gl Env.kindOf
 rw [h2]
 exact G.gl i x hL
theorem vn (V : Vs N sc) (i : Nat) (hN : N[i]? = some x := by rfl) (h1 : X.N = N := by rfl) (h2 : X.env.scope = sc := by rfl) : PE X (.Name x pos) (tVar i) := by
 subst h1 h2
 exact pe_var hN (V.vis i x hN) (V.dbg i x hN) (V.cdt i x hN)
theorem set_v {i : Nat} {e : Expr} {te : TE} {pos' : Pos} (Lc : Ls N sc) (he : PE X e te) (hi : N[i]? = some x := by rfl) (h1 : X.N = N := by rfl) (h2 : X.env.scope = sc := by rfl) (hs : swapsWith e (some (.Name x pos')) pos.line X.env = pure false := by rfl) (hf : X.fn x = true := by rfl) :
  PS X (.Assign [.Name x pos'] e pos) (tAsg te (gName i)) := by
 subst h1 h2
 exact ps_set Lc.nd hi (Lc.loc i x hi) he hs (.inl hf)
theorem tgt_v {i : Nat} (Lc : Ls N sc) (hi : N[i]? = some x := by rfl) (h1 : X.N = N := by rfl) (h2 : X.env.scope = sc := by rfl) (hf : X.fn x = true := by rfl) : PG X (.Name x pos) (gName i) := by
 subst h1 h2
 exact pg_name Lc.nd hi (Lc.loc i x hi) (.inl hf)
theorem cB {i : Nat} {id : String} {r : List V → Hp → VK → Prop} {e : Expr} {es : List Expr} {t : TA} (G : Gs L sc) (hc : CallR X (.builtin id) r) (hm : X.mg x = none) (hv : bootBuiltins x = some (.builtin id)) (ha : PA X (e :: es) t) (hL : L[i]? = some x := by rfl) (h2 : X.env.scope = sc := by rfl)
  (he : starEach (e :: es) X.env = (false, eval e X.env) :: starEach es X.env := by rfl) (hpl : (backTo pos (starEach es X.env)).any (·.1) = false := by rfl) : PE X (.Call (.Name x p) (e :: es) [] pos) (tCB r t) :=
 pe_callB hc (glX G hL h2) hm hv ha (G.nn i x hL) (G.dbg i x hL) he hpl
theorem cTy {i : Nat} {T : String} {r : List V → Hp → VK → Prop} {e : Expr} {es : List Expr} {t : TA} (G : Gs L sc) (hc : CallR X (.type T) r) (hm : X.mg x = none) (hv : bootBuiltins x = some (.type T)) (ha : PA X (e :: es) t) (hL : L[i]? = some x := by rfl) (h2 : X.env.scope = sc := by rfl)
  (he : starEach (e :: es) X.env = (false, eval e X.env) :: starEach es X.env := by rfl) (hpl : (backTo pos (starEach es X.env)).any (·.1) = false := by rfl) : PE X (.Call (.Name x p) (e :: es) [] pos) (tCB r t) :=
 pe_callTy hc (glX G hL h2) hm hv ha (G.nn i x hL) (G.dbg i x hL) he hpl
theorem cOwn {i : Nat} {c : Bool} {k : Nat} {ps : List Str} {sp : Sp} {E : XK} {e : Expr} {es : List Expr} {t : TA} (G : Gs L sc) (O : Own X.prog X.w X.K X.mg X.base c k x ps sp) (hr : Room k X.A) (hx : Passes (CX1 X.prog X.w) X E) (ha : PA X (e :: es) t) (hL : L[i]? = some x := by rfl) (h2 : X.env.scope = sc := by rfl)
  (hca : c = true → X.calm = true := by first | exact fun h => h | exact fun _ => rfl | exact fun h => nomatch h) (he : starEach (e :: es) X.env = (false, eval e X.env) :: starEach es X.env := by rfl) (hpl : (backTo pos (starEach es X.env)).any (·.1) = false := by rfl) :
  PE X (.Call (.Name x p) (e :: es) [] pos) (tCall sp [] E t) :=
 pe_own O hr hx ha hca (glX G hL h2) (G.dbg i x hL) he hpl
theorem nTy {i : Nat} {n : String} (G : Gs L sc) (hm : X.mg x = none) (hv : bootBuiltins x = some (.type n)) (hL : L[i]? = some x := by rfl) (h2 : X.env.scope = sc := by rfl) : PE X (.Name x pos) (tC (.ty n)) :=
 pe_ty hm hv (glX G hL h2) (G.nn i x hL) (G.dbg i x hL)
theorem nCls {i : Nat} {C : Addr} (G : Gs L sc) (hm : X.mg x = some (.ref C)) (hL : L[i]? = some x := by rfl) (h2 : X.env.scope = sc := by rfl) : PE X (.Name x pos) (tC (.ref C)) :=
 pe_cls hm (glX G hL h2) (G.dbg i x hL)
theorem nCon {i : Nat} {v : V} (G : Gs L sc) (h : ∃ u, X.mg x = some u ∧ RelV v u) (hL : L[i]? = some x := by rfl) (h2 : X.env.scope = sc := by rfl) : PE X (.Name x pos) (tC v) :=
 pe_const h (glX G hL h2) (G.dbg i x hL)
theorem iR1 {i : Nat} {tg a : Expr} {ta : TA} (G : Gs L sc) (hm : X.mg "range" = none) (ha : PA X [a] ta) (hL : L[i]? = some "range" := by rfl) (h2 : X.env.scope = sc := by rfl) (hs : starEach [a] X.env = [(false, eval a X.env)] := by rfl) : PI X tg (.Call (.Name "range" p) [a] [] pos) (iRng1 ta) :=
 pi_range1 (glX G hL h2) hm ha hs
theorem rse {i : Nat} {E : XK} {C : Addr} {e : Expr} {es : List Expr} {t : TA} {np cpos : Pos} (G : Gs L sc) (hm : X.mg x = some (.ref C)) (hE : ExcC X.K C) (ha : PA (Xw X E) (e :: es) t) (hc : X.calm = true := by rfl) (hL : L[i]? = some x := by rfl) (h2 : X.env.scope = sc := by rfl)
  (he : starEach (e :: es) X.env = (false, eval e X.env) :: starEach es X.env := by rfl) (hpl : (backTo cpos (starEach es X.env)).any (·.1) = false := by rfl) :
  PS (Xw X E) (.Raise (some (.Call (.Name x np) (e :: es) [] cpos)) none pos) (tRaise E C t) :=
 ps_raise hc (glX G hL h2) hm hE ha (G.dbg i x hL) he hpl
theorem tryx {j i : Nat} {n : Str} {E : XK} {body : List Stmt} {b₀ : Stmt} {suite : List Stmt} {CE : Addr} {tb : XK → TS} {th : TS} {np hpos : Pos} (G : Gs L sc) (Lc : Ls N sc) (Dx : DefCx X) (h0 : X.hx = none)
  (hb : ∀ (E1 : XK) (pn : List (Addr × Obj)), PSs (Xw (X.pin pn) E1) body (tb E1)) (hm : X.mg x = some (.ref CE))
  (hh : ∀ (a : Addr) (o : Obj) (pn : List (Addr × Obj)), PSs (hdCx (X.pin pn) a o) (b₀ :: suite) th) (hn : N[i]? = some n := by rfl) (hl : sc.names.lookup n = some .local := by decide +kernel) (hL : L[j]? = some x := by rfl) (h1 : X.N = N := by rfl) (h2 : X.env.scope = sc := by rfl) :
  PS (Xw X E) (.Try body [.ExceptHandler (some (.Name x np)) (some n) (b₀ :: suite) hpos] [] [] pos) (tTry X.K X.N.length i CE tb th) := by
 subst h1
 exact ps_try Dx h0 hb (glX G hL h2) hm Lc.nd hn (by rw [h2]; exact hl) hh (G.dbg j x hL)
end
end L2
namespace L2
open PySem PySem.Spec PyProof.Rows
section
variable {X : Cx} {pins : List (Addr × Obj)} {σ : St} {H : Hp} {s : Shared}
end
noncomputable def Ite (K : PySem.W.Frag) (a : Addr) : It :=
 ⟨fun i H => ∃ xs x, SqL K H a xs ∧ xs[i]? = some x, fun i H x H' => ∃ p y, x = .ref p ∧ H p = none ∧ H' = upd H p (.tup [.int i, y]) ∧ ∀ xs, SqL K H a xs → xs[i]? = some y, fun i H => ∃ xs, SqL K H a xs ∧ xs.length ≤ i⟩
noncomputable def iEnum (K : PySem.W.Frag) (ta : TA) : TI := fun σ H R => ta σ H fun vs H1 => ∃ a, vs = [.ref a] ∧ (∃ xs, SqL K H1 a xs) ∧ R (Ite K a) H1
section
variable {X : Cx} {es : List Expr} {kt : Nat} {pt : Pos}
end
noncomputable def Itz (a b : Addr) : It :=
 ⟨fun i H => ∃ xs ys x y, H a = some (.lst xs) ∧ H b = some (.lst ys) ∧ xs[i]? = some x ∧ ys[i]? = some y, fun i H x H' => ∃ p y z, x = .ref p ∧ H p = none ∧ H' = upd H p (.tup [y, z]) ∧ (∀ xs, H a = some (.lst xs) → xs[i]? = some y) ∧ ∀ xs, H b = some (.lst xs) → xs[i]? = some z,
  fun i H => ∃ xs ys, H a = some (.lst xs) ∧ H b = some (.lst ys) ∧ (xs.length ≤ i ∨ ys.length ≤ i)⟩
noncomputable def iZip (ta : TA) : TI := fun σ H R => ta σ H fun vs H1 => ∃ a b, vs = [.ref a, .ref b] ∧ (∃ xs, H1 a = some (.lst xs)) ∧ (∃ ys, H1 b = some (.lst ys)) ∧ R (Itz a b) H1
section
variable {X : Cx} {es : List Expr} {kt : Nat} {pt : Pos}
end
end L2
namespace L2
open PySem PySem.Spec PyProof.Rows
section
variable {X : Cx}
noncomputable def rEqT (K : PySem.W.Frag) : R2 := fun x y H Q => ∃ p q xs ys, x = .ref p ∧ y = .ref q ∧ SqT K H p xs ∧ SqT K H q ys ∧ xs.all flatV = true ∧ ys.all flatV = true ∧ Q (.bl (eqVs xs ys)) H
noncomputable def rNeT (K : PySem.W.Frag) : R2 := fun x y H Q => ∃ p q xs ys, x = .ref p ∧ y = .ref q ∧ SqT K H p xs ∧ SqT K H q ys ∧ xs.all flatV = true ∧ ys.all flatV = true ∧ Q (.bl (!eqVs xs ys)) H
end
noncomputable def Itd (lo : Int) (n : Nat) : It := ⟨fun i _ => i < n, fun i H x H' => H' = H ∧ x = .int (lo - i), fun i _ => n ≤ i⟩
noncomputable def iRngD (ta : TA) : TI := fun σ H R => ta σ H fun vs H1 => ∃ i j : Int, vs = [.int i, .int j, .int (-1)] ∧ (-(2 ^ 62) ≤ i ∧ i < 2 ^ 62 ∧ -(2 ^ 62) ≤ j ∧ j < 2 ^ 62) ∧ R (Itd i (i - j).toNat) H1
section
variable {X : Cx} {tg : Expr}
noncomputable def tLR (ta : TA) : TE := fun σ H Q => ta σ H fun vs H1 => ∃ i j : Int, vs = [.int i, .int j] ∧ (-(2 ^ 62) ≤ i ∧ i < 2 ^ 62 ∧ -(2 ^ 62) ≤ j ∧ j < 2 ^ 62) ∧ (j - i).toNat ≤ 100000 ∧ ∀ p, H1 p = none → Q (.ref p) (upd H1 p (.lst ((List.range (j - i).toNat).map fun k : Nat => V.int (i + (k : Int)))))
end
end L2
namespace L2
open PySem PySem.Spec PyProof.Rows
section
variable {X : Cx} {N L : List Str} {sc : Scope} {x y : Str} {pos p : Pos}
end
end L2
namespace L2
open PySem PySem.Spec PyProof.Rows
section
variable {κ : Type} [DecidableEq κ]
noncomputable def valV (kvs : List (κ × V)) (k : κ) : Option V := (kvs.find? fun kv => decide (kv.1 = k)).map (·.2)
noncomputable def putK (kvs : List (κ × V)) (k : κ) (v : V) : List (κ × V) :=
 if (kvs.any fun kv => decide (kv.1 = k)) = true then kvs.map (fun kv => if kv.1 = k then (kv.1, v) else kv) else kvs ++ [(k, v)]
noncomputable def dropK (kvs : List (κ × V)) (k : κ) : List (κ × V) := kvs.filter fun kv => decide (kv.1 ≠ k)
theorem valV_pos {p : κ × V} {r : List (κ × V)} {k : κ} (e : p.1 = k) : valV (p :: r) k = some p.2 := by simp [valV, List.find?_cons, e]
theorem valV_neg {p : κ × V} {r : List (κ × V)} {k : κ} (e : ¬ p.1 = k) : valV (p :: r) k = valV r k := by simp [valV, List.find?_cons, e]
theorem valV_any (k : κ) : ∀ kvs : List (κ × V), (kvs.any fun kv => decide (kv.1 = k)) = (valV kvs k).isSome
 | [] => rfl
 | p :: r => by
  rw [List.any_cons]
  by_cases e : p.1 = k
  ·simp only [valV_pos e, decide_eq_true e, Bool.true_or, Option.isSome_some]
  ·rw [valV_neg e, decide_eq_false e, Bool.false_or]; exact valV_any k r
theorem length_putK (kvs : List (κ × V)) (k : κ) (v : V) : (putK kvs k v).length ≤ kvs.length + 1 := by
 unfold putK
 split
 ·rw [List.length_map]; omega
 ·rw [List.length_append, List.length_cons, List.length_nil]; omega
theorem RelO.isSome_eq {o : Option V} {u : Option Value} (r : RelO o u) : o.isSome = u.isSome := by
 cases o with
 | none => cases u with
  | none => rfl
  | some _ => exact (show False from r).elim
 | some _ => cases u with
  | none => exact (show False from r).elim
  | some _ => rfl
theorem KV.val {kvs : List (κ × V)} {vs : List (κ × Value)} (r : KV kvs vs) (k : κ) : RelO (valV kvs k) (valueAt vs k) := by
 unfold KV at r
 induction r with
 | nil => exact True.intro
 | @cons p q ps qs h t ih =>
  obtain ⟨h1, h2⟩ := h
  by_cases e : p.1 = k
  ·have e' : q.1 = k := h1.symm.trans e
   have b : valueAt (q :: qs) k = some q.2 := by simp [valueAt, List.find?_cons, e']
   rw [valV_pos e, b]; exact h2
  ·have e' : ¬ q.1 = k := fun z => e (h1.trans z)
   have b : valueAt (q :: qs) k = valueAt qs k := by simp [valueAt, List.find?_cons, e']
   rw [valV_neg e, b]; exact ih
theorem KV.any {kvs : List (κ × V)} {vs : List (κ × Value)} (r : KV kvs vs) (k : κ) : (kvs.any fun kv => decide (kv.1 = k)) = vs.any fun kv => decide (kv.1 = k) := by
 unfold KV at r
 induction r with
 | nil => rfl
 | cons h t ih => rw [List.any_cons, List.any_cons, ih, h.1]
theorem KV.repl {kvs : List (κ × V)} {vs : List (κ × Value)} (r : KV kvs vs) (k : κ) {y : V} {u : Value} (ry : RelV y u) :
  KV (kvs.map fun kv => if kv.1 = k then (kv.1, y) else kv) (vs.map fun kv => if kv.1 = k then (kv.1, u) else kv) := by
 unfold KV at r ⊢
 induction r with
 | nil => exact .nil
 | @cons p q ps qs h t ih =>
  rw [List.map_cons, List.map_cons]
  refine .cons ?_ ih
  obtain ⟨h1, h2⟩ := h
  by_cases e : p.1 = k
  ·rw [if_pos e, if_pos (h1.symm.trans e)]; exact ⟨h1, ry⟩
  ·rw [if_neg e, if_neg (fun z => e (h1.trans z))]; exact ⟨h1, h2⟩
theorem KV.put {kvs : List (κ × V)} {vs : List (κ × Value)} (r : KV kvs vs) (k : κ) {y : V} {u : Value} (ry : RelV y u) : KV (putK kvs k y) (stored vs k u) := by
 unfold putK stored
 rw [r.any k]
 by_cases e : (vs.any fun kv => decide (kv.1 = k)) = true
 ·rw [if_pos e, if_pos e]; exact r.repl k ry
 ·rw [if_neg e, if_neg e]; exact Paired.snoc r ⟨rfl, ry⟩
theorem KV.length {kvs : List (κ × V)} {vs : List (κ × Value)} (r : KV kvs vs) : kvs.length = vs.length := Paired.length r
end
theorem kV_is {P : Program} {w : World} {k : Key} {u : Value} (r : RelV (kV k) u) : (mixKind P w).is k u = true := by
 cases k with
 | inl i => obtain ⟨t, e⟩ := (show ∃ t, u = Value.int i t from r); subst e; exact mixKind_int P w i t
 | inr x => obtain ⟨t, e⟩ := (show ∃ t, u = Value.str x t from r); subst e; exact mixKind_str P w x t
theorem items_are {P : Program} {w : World} : ∀ {ks : List Key} {us : List Value}, Vals (ks.map kV) us → ItemsAre (mixKind P w) ks us
 | [], _, r => by rw [List.map_nil] at r; cases r; exact .nil
 | k :: ks, _, r => by
  rw [List.map_cons] at r
  cases r with
  | cons h t => exact .cons (kV_is h) (items_are t)
noncomputable abbrev KT (H : Hp) : List (List Key × V) → List (List Key × Addr × Value) → Prop := Paired fun p q => p.1 = q.1 ∧ H q.2.1 = some (.tup (p.1.map kV)) ∧ RelV p.2 q.2.2
theorem KT.val {H : Hp} {kvs : List (List Key × V)} {xs : List (List Key × Addr × Value)} (r : KT H kvs xs) (k : List Key) : RelO (valV kvs k) ((atKey xs k).map (·.2)) := by
 induction r with
 | nil => exact True.intro
 | @cons p q ps qs h t ih =>
  obtain ⟨h1, _, h2⟩ := h
  by_cases e : p.1 = k
  ·have e' : q.1 = k := h1.symm.trans e
   have b : atKey (q :: qs) k = some q.2 := by simp [atKey, List.find?_cons, e']
   rw [valV_pos e, b]; exact h2
  ·have e' : ¬ q.1 = k := fun z => e (h1.trans z)
   have b : atKey (q :: qs) k = atKey qs k := by simp [atKey, List.find?_cons, e']
   rw [valV_neg e, b]; exact ih
theorem KT.repl {H : Hp} {kvs : List (List Key × V)} {xs : List (List Key × Addr × Value)} (r : KT H kvs xs) (k : List Key) {y : V} {u : Value} (ry : RelV y u) :
  KT H (kvs.map fun kv => if kv.1 = k then (kv.1, y) else kv) (xs.map (putAt k u)) := by
 induction r with
 | nil => exact .nil
 | @cons p q ps qs h t ih =>
  rw [List.map_cons, List.map_cons]
  refine .cons ?_ ih
  obtain ⟨h1, h2, h3⟩ := h
  unfold putAt
  by_cases e : p.1 = k
  ·rw [if_pos e, if_pos (h1.symm.trans e)]; exact ⟨h1, h2, ry⟩
  ·rw [if_neg e, if_neg (fun z => e (h1.trans z))]; exact ⟨h1, h2, h3⟩
theorem KT.put {H : Hp} {kvs : List (List Key × V)} {xs : List (List Key × Addr × Value)} (r : KT H kvs xs) (k : List Key) {b : Addr} {y : V} {u : Value} (hb : H b = some (.tup (k.map kV))) (ry : RelV y u) :
  KT H (putK kvs k y) (storedH xs k b u) := by
 have e : (kvs.any fun kv => decide (kv.1 = k)) = (atKey xs k).isSome := by
  rw [valV_any, (r.val k).isSome_eq, Option.isSome_map]
 unfold putK storedH
 rw [e]
 by_cases q : (atKey xs k).isSome = true
 ·rw [if_pos q, if_pos q]; exact r.repl k ry
 ·rw [if_neg q, if_neg q]; exact Paired.snoc r ⟨rfl, hb, ry⟩
theorem KT.keeps {H H' : Hp} {kvs : List (List Key × V)} {xs : List (List Key × Addr × Value)} (r : KT H kvs xs) (ht : ∀ b ys, H b = some (.tup ys) → H' b = some (.tup ys)) : KT H' kvs xs :=
 Paired.mapP r fun _ _ z => ⟨z.1, ht _ _ z.2.1, z.2.2⟩
section
variable {P : Program} {w : World} {H : Hp} {h : Heap} {a : Addr}
theorem rd_of {u : HO} (ok : HOk P w H h) (e : Rd H a u) : ObjOk P w H h a u := e.ok ok
theorem dk_rd {kvs : List (Key × V)} (ok : HOk P w H h) (e : Rd H a (.dK kvs)) : kvs.length ≤ sizeLine ∧ (a == sysModules) = false ∧ ∃ vs, KV kvs vs ∧ h.DictOf (mixKind P w) a vs :=
 show ObjOk P w H h a (.dK kvs) from rd_of ok e
theorem dk_of {kvs : List (Key × V)} (ok : HOk P w H h) (e : H a = some (.dK kvs)) : kvs.length ≤ sizeLine ∧ (a == sysModules) = false ∧ ∃ vs, KV kvs vs ∧ h.DictOf (mixKind P w) a vs := dk_rd ok (.inl e)
theorem key_of {ks : List Key} (ok : HOk P w H h) (e : H a = some (.tup (ks.map kV))) : (tupleKind (mixKind P w)).is h ks a := by
 obtain ⟨_, its, r, o, h1, h2, n, h3⟩ := (show ObjOk P w H h a (.tup (ks.map kV)) from ok a _ e)
 exact ⟨o, its.toArray, n, h1, h2, h3, by simpa using items_are r⟩
theorem dt_rd {kvs : List (List Key × V)} (ok : HOk P w H h) (e : Rd H a (.dT kvs)) : kvs.length ≤ sizeLine ∧ (a == sysModules) = false ∧
  ∃ xs, KT H kvs xs ∧ h.DictOfH (tupleKind (mixKind P w)) a xs := by
 obtain ⟨z, y, xs, r, o, es, ep, h1, h2, h3, h4, h5⟩ := (show ObjOk P w H h a (.dT kvs) from rd_of ok e)
 refine ⟨z, y, xs, r, o, es, ep, h1, h2, h3, h4, fun x hx => ?_, h5⟩
 have all : ∀ {l : List (List Key × V)} {m : List (List Key × Addr × Value)}, KT H l m → ∀ x ∈ m, (tupleKind (mixKind P w)).is h x.1 x.2.1 := by
  intro l m q
  induction q with
  | nil => intro x hx; exact nomatch hx
  | @cons p q ps qs hq t ih =>
   intro x hx
   rcases List.mem_cons.mp hx with e | hx
   ·subst e
    exact key_of ok (by rw [← hq.1]; exact hq.2.1)
   ·exact ih x hx
 exact all r x hx
theorem dt_of {kvs : List (List Key × V)} (ok : HOk P w H h) (e : H a = some (.dT kvs)) : kvs.length ≤ sizeLine ∧ (a == sysModules) = false ∧
  ∃ xs, KT H kvs xs ∧ h.DictOfH (tupleKind (mixKind P w)) a xs := dt_rd ok (.inl e)
end
noncomputable def DGet (H : Hp) (a : Addr) (y : V) (r : Option V) : Prop :=
 (∃ kvs k, Rd H a (.dK kvs) ∧ y = kV k ∧ r = valV kvs k) ∨ ∃ kvs k b, Rd H a (.dT kvs) ∧ y = .ref b ∧ H b = some (.tup (k.map kV)) ∧ r = valV kvs k
noncomputable def DPut (H : Hp) (a : Addr) (y v : V) (H' : Hp) : Prop :=
 (∃ kvs k, H a = some (.dK kvs) ∧ y = kV k ∧ kvs.length < sizeLine ∧ H' = upd H a (.dK (putK kvs k v))) ∨
 ∃ kvs k b, H a = some (.dT kvs) ∧ y = .ref b ∧ H b = some (.tup (k.map kV)) ∧ kvs.length < sizeLine ∧ H' = upd H a (.dT (putK kvs k v))
section
variable {X : Cx} {pins : List (Addr × Obj)} {σ : St} {H : Hp} {s : Shared} {a : Addr} {y v : V} {u r : Value} {o : Option V} {A : Around} {E : Value → Shared → Prop}
theorem Inv.big (I : Inv X pins σ H s) : sysModules < s.heap.objs.size := by
 have h : mainGlobals < s.heap.objs.size := (I.mod.glob.keeps I.bk).lt
 exact Nat.lt_trans (by decide) h
theorem d_getItem {Q : Value → Shared → Prop} (hu : A.units + 1 < cLine) (I : Inv X pins σ H s) (g : DGet H a y (some v)) (ry : RelV y u) (h : ∀ w' s', Inv X pins σ H s' → RelV v w' → Q w' s') :
  wpAny (model X.prog X.w) A (getItem (.ref a) u) Q E s := by
 rcases g with ⟨kvs, k, e, ey, l⟩ | ⟨kvs, k, b, e, ey, eb, l⟩
 ·subst ey
  obtain ⟨z, hd, vs, rel, dd⟩ := dk_rd I.hok e
  obtain ⟨w', hw, rw'⟩ := RelO.some_of (v := v) (o := valueAt vs k) (by rw [l]; exact rel.val k)
  exact wpAny_getItem_of (kV_is ry) dd.mapOf hw (h w' _ (I.tok _) rw')
 ·subst ey
  cases (show u = Value.ref b from ry)
  obtain ⟨z, hd, xs, rel, dd⟩ := dt_rd I.hok e
  obtain ⟨w', hw, rw'⟩ := RelO.some_of (v := v) (o := (atKey xs k).map (·.2)) (by rw [l]; exact rel.val k)
  obtain ⟨p, hp, hp2⟩ := Option.map_eq_some_iff.mp hw
  refine wpAny_getItem_heap (tupleKind_room_in1 hu) (key_of I.hok eb) dd hp ?_
  rw [hp2]
  exact h w' _ (I.tok _) rw'
theorem d_write {h' : Heap} {t' : Nat} {ob : HO} (I : Inv X pins σ H s) (mu : Mut (H a)) (hs : Heap.SameBut a s.heap h') (he : ∃ q, h'.get? a = some q) (new : ObjOk X.prog X.w (upd H a ob) h' a ob) :
  Inv X pins σ (upd H a ob) { s with heap := h', toks := t' } :=
 I.write (x := a) (e := a) mu (.inl rfl) (fun b q hb z => (hs.2 b hb).trans z) he new
theorem dk_new {P : Program} {w : World} {H' : Hp} {h' : Heap} {kvs : List (Key × V)} {vs : List (Key × Value)} (z : kvs.length ≤ sizeLine) (hd : (a == sysModules) = false) (rel : KV kvs vs) (dd : h'.DictOf (mixKind P w) a vs) :
  ObjOk P w H' h' a (.dK kvs) := ⟨z, hd, vs, rel, dd⟩
theorem d_setItem {H' : Hp} {Q : Unit → Shared → Prop} (hu : A.units + 1 < cLine) (I : Inv X pins σ H s) (g : DPut H a y v H') (ry : RelV y u) (rv : RelV v r) (h : ∀ s', Inv X pins σ H' s' → Q () s') :
  wpAny (model X.prog X.w) A (setItem (.ref a) u r) Q E s := by
 rcases g with ⟨kvs, k, e, ey, l, eH⟩ | ⟨kvs, k, b, e, ey, eb, l, eH⟩
 ·subst ey eH
  obtain ⟨z, hd, vs, rel, dd⟩ := dk_of I.hok e
  have hz : vs.length ≤ sizeLine := by rw [← rel.length]; exact z
  have hl : (putK kvs k v).length ≤ sizeLine := by have := length_putK kvs k v; omega
  refine wpAny_setItem_pairs (hsz := hz) (kV_is ry) dd fun h' dd' hs => h _ ?_
  have he : ∃ q, h'.get? a = some q := let ⟨q, _, _, hq, _⟩ := dd'; ⟨q, hq⟩
  exact d_write I (by rw [e]; exact True.intro) hs he (dk_new hl hd (rel.put k rv) dd')
 ·subst ey eH
  cases (show u = Value.ref b from ry)
  obtain ⟨z, hd, xs, rel, dd⟩ := dt_of I.hok e
  have hz : xs.length ≤ sizeLine := by rw [← Paired.length rel]; exact z
  have hl : (putK kvs k v).length ≤ sizeLine := by have := length_putK kvs k v; omega
  refine wpAny_setItem_heap (hsz := hz) (tupleKind_room_in1 hu) (key_of I.hok eb) dd fun h' dd' hs => h _ ?_
  obtain ⟨q, es, ep, hq, h2, h3, h4, _, h5⟩ := dd'
  refine d_write I (by rw [e]; exact True.intro) hs ⟨q, hq⟩ ⟨hl, hd, _, (rel.put k eb rv).keeps fun c ys ec => ?_, q, es, ep, hq, h2, h3, h4, h5⟩
  rw [upd_ne (ne_of ec e (fun z => nomatch z))]
  exact ec
end
section
variable {X : Cx} {pins : List (Addr × Obj)} {σ : St} {H : Hp} {s : Shared} {a : Addr} {kvs : List (Key × V)} {k : Key} {u : Value} {A : Around} {E : Value → Shared → Prop}
end
noncomputable def NoSl (i : Expr) : Prop := ∀ ov iv, subscripted i false ov iv = operate [ov, iv] (getItem ov iv)
theorem subD_of {prog : Program} {w : World} {A : Around} {E : Value → Shared → Prop} {s : Shared} {env : Env} {value slice : Expr} {pos : Pos} {T id : String} {Q : Value → Shared → Prop}
  (hl : typeLookup (.type T) "__getitem__" = pure (some (.builtin id))) (hs : NoSl slice)
  (h : wpAny (model prog w) A (eval value env) (fun o s₁ => wpAny (model prog w) A (eval slice env) (fun i s₂ => s₂.TypeIs o T ∧ wpAny (model prog w) A (getItem o i) Q E s₂) E s₁) E s) :
  wpAny (model prog w) A (eval (.Subscript value slice pos) env) Q E s := by
 refine Subscript_ (wpAny_mono h (fun o s₁ h₁ => wpAny_mono h₁ (fun i s₂ h₂ => ?_) fun _ _ x => x) fun _ _ x => x)
 obtain ⟨hT, h₂⟩ := h₂
 unfold subscriptTail
 refine wpAny_bind ?_
 rw [getitemInPython_of_ne hT.not_modules]
 refine wpAny_bind (wpAny_specialOf hT hl ?_)
 have fin : wpAny (model prog w) A (subscripted slice false o i) (fun r s₃ => wpAny (model prog w) A (letTemporaryGo value o r >>= fun _ => pure r) Q E s₃) E s₂ := by
  rw [hs o i]
  exact wpAny_operating (wpAny_mono h₂ (fun r s₃ h₃ => wpAny_bind (wpAny_letTemporaryGo (wpAny_pure h₃))) fun _ _ x => x)
 first
  | exact wpAny_pure (wpAny_bind fin)
  | exact wpAny_bind (wpAny_pure (wpAny_bind fin))
  | exact wpAny_bind fin
theorem dict_typeIs {X : Cx} {pins : List (Addr × Obj)} {σ : St} {H : Hp} {s : Shared} {a : Addr} {y : V} {o : Option V} (I : Inv X pins σ H s) (g : DGet H a y o) : s.TypeIs (.ref a) "dict" := by
 rcases g with ⟨kvs, k, e, _, _⟩ | ⟨kvs, k, b, e, _, _, _⟩
 ·obtain ⟨_, _, vs, _, dd⟩ := dk_rd I.hok e
  exact dd.typeIs
 ·obtain ⟨_, _, xs, _, dd⟩ := dt_rd I.hok e
  exact dd.typeIs
noncomputable def tDGet (td ty : TE) : TE := fun σ H Q => td σ H fun x H1 => ty σ H1 fun y H2 => ∃ a v, x = .ref a ∧ DGet H2 a y (some v) ∧ Q v H2
noncomputable def tDIn (ty td : TE) : TE := fun σ H Q => ty σ H fun y H1 => td σ H1 fun x H2 => ∃ a o, x = .ref a ∧ DGet H2 a y o ∧ Q (.bl o.isSome) H2
noncomputable def tDNotIn (ty td : TE) : TE := fun σ H Q => ty σ H fun y H1 => td σ H1 fun x H2 => ∃ a o, x = .ref a ∧ DGet H2 a y o ∧ Q (.bl (!o.isSome)) H2
noncomputable def sDPut (td ty tv : TE) : TS := fun D σ H => tv σ H fun v H1 => td σ H1 fun x H2 => ty σ H2 fun y H3 => ∃ a H4, x = .ref a ∧ DPut H3 a y v H4 ∧ D.nx σ H4
noncomputable def sDAug (td ty tv : TE) (rd : V → V → Hp → VK → Prop) : TS := fun D σ H => td σ H fun x H1 => ty σ H1 fun y H2 => ∃ a v, x = .ref a ∧ DGet H2 a y (some v) ∧
 tv σ H2 fun y2 H3 => rd v y2 H3 fun z H4 => ∃ H5, DPut H4 a y z H5 ∧ D.nx σ H5
noncomputable def sDDel (td ty : TE) : TS := fun D σ H => td σ H fun x H1 => ty σ H1 fun y H2 => ∃ a kvs k, x = .ref a ∧ H2 a = some (.dK kvs) ∧ y = kV k ∧ (valV kvs k).isSome = true ∧ D.nx σ (upd H2 a (.dK (dropK kvs k)))
section
variable {X : Cx} {o i e value : Expr} {pos pos' tpos : Pos} {td ty tv : TE}
theorem pe_dget (hu : X.A.units + 1 < cLine) (ho : PE X o td) (hi : PE X i ty) (hs : NoSl i) : PE X (.Subscript o i pos) (tDGet td ty) := by
 constructor
 intro pins s σ H Q I h
 refine subD_of PySem.F.slot_dict_getitem.lookup hs (thn (ho pins s σ H _ I h) fun u s1 ⟨x, H1, I1, rx, q1⟩ => thn (hi pins s1 σ H1 _ I1 q1) fun iv s2 ⟨y, H2, I2, ry, a, v, ex, g, q2⟩ => ?_)
 subst ex
 obtain rfl : u = Value.ref a := rx
 exact ⟨dict_typeIs I2 g, d_getItem hu I2 g ry fun w' s3 I3 rw' => ⟨v, H2, I3, rw', q2⟩⟩
theorem ps_dput (hu : X.A.units + 1 < cLine) (ho : PE X o td) (hi : PE X i ty) (hv : PE X value tv) (hs : swapsWith value (some (.Subscript o i pos')) pos.line X.env = pure false) :
  PS X (.Assign [.Subscript o i pos'] value pos) (sDPut td ty tv) := by
 constructor
 intro pins s σ H D I h
 refine wpAny_Assign_Subscript (thn (hv pins s σ H _ I h) fun r s1 ⟨v, H1, I1, rv, q1⟩ => thn (ho pins s1 σ H1 _ I1 q1) fun u s2 ⟨x, H2, I2, rx, q2⟩ => thn (hi pins s2 σ H2 _ I2 q2) fun iv s3 ⟨y, H3, I3, ry, a, H4, ex, g, q3⟩ => ?_) hs
 subst ex
 obtain rfl : u = Value.ref a := rx
 exact d_setItem hu I3 g ry rv fun s4 I4 => ⟨σ, H4, I4, q3⟩
end
theorem dk_empty {P : Program} {w : World} {H : Hp} (h : Heap) (hb : sysModules < h.objs.size) : ObjOk P w H (h.push { cls := .type "dict", data := .dict #[] }) h.objs.size (.dK []) :=
 ⟨Nat.zero_le _, beq_eq_false_iff_ne.mpr (Ne.symm (Nat.ne_of_lt hb)), [], .nil, Heap.DictOf.new h⟩
noncomputable def tDNewK : TE := fun _ H Q => ∀ p, H p = none → Q (.ref p) (upd H p (.dK []))
noncomputable def tDNewT : TE := fun _ H Q => ∀ p, H p = none → Q (.ref p) (upd H p (.dT []))
section
variable {X : Cx} {pos : Pos}
end
noncomputable def tPairs : List (TE × TE) → St → Hp → (List (V × V) → Hp → Prop) → Prop
 | [], _, H, Q => Q [] H
 | (tk, tv) :: r, σ, H, Q => tk σ H fun x H1 => tv σ H1 fun y H2 => tPairs r σ H2 fun ps H3 => Q ((x, y) :: ps) H3
noncomputable abbrev VV : List (V × V) → List (Value × Value) → Prop := Paired fun p q => RelV p.1 q.1 ∧ RelV p.2 q.2
noncomputable def PPs (X : Cx) (pos : Pos) (keys : List (Option Expr)) (values : List Expr) (trs : List (TE × TE)) : Prop :=
 ∀ (pins : List (Addr × Obj)) (s : Shared) (σ : St) (H : Hp) (Q : List (V × V) → Hp → Prop), Inv X pins σ H s → tPairs trs σ H Q →
  wpAny (model X.prog X.w) X.A (evalPairs (pairTrees keys values X.env pos)) (fun vs s' => ∃ ps H', Inv X pins σ H' s' ∧ VV ps vs ∧ Q ps H') X.xe s
theorem pps_nil {X : Cx} {pos : Pos} : PPs X pos [] [] [] := fun pins s σ H Q I h => pairTrees_nil_walk ⟨[], H, I, .nil, h⟩
theorem pps_cons {X : Cx} {pos : Pos} {k v : Expr} {ks : List (Option Expr)} {vs : List Expr} {tk tv : TE} {trs : List (TE × TE)} (hk : PE X k tk) (hv : PE X v tv) (hr : PPs X pos ks vs trs) :
  PPs X pos (some k :: ks) (v :: vs) ((tk, tv) :: trs) := fun pins s σ H Q I h =>
 pairTrees_cons_walk (thn (hk pins s σ H _ I h) fun u s1 ⟨x, H1, I1, rx, q1⟩ => thn (hv pins s1 σ H1 _ I1 q1) fun w2 s2 ⟨y, H2, I2, ry, q2⟩ =>
  thn (hr pins s2 σ H2 _ I2 q2) fun ws s3 ⟨ps, H3, I3, rel, q3⟩ => ⟨(x, y) :: ps, H3, I3, .cons ⟨rx, ry⟩ rel, q3⟩)
noncomputable def mergeK (kvs more : List (Key × V)) : List (Key × V) := more.foldl (fun acc kv => putK acc kv.1 kv.2) kvs
theorem KV.merge : ∀ {more : List (Key × V)} {rs : List (Key × Value)} {kvs : List (Key × V)} {vs : List (Key × Value)}, KV more rs → KV kvs vs → KV (mergeK kvs more) (merged vs rs) := by
 intro more rs kvs vs r
 unfold KV at r
 induction r generalizing kvs vs with
 | nil => intro q; exact q
 | @cons p q ps qs h t ih =>
  intro r0
  have e : KV (putK kvs p.1 p.2) (stored vs q.1 q.2) := by
   have := r0.put p.1 h.2
   rw [← h.1]; exact this
  exact ih e
theorem length_mergeK : ∀ (more kvs : List (Key × V)), (mergeK kvs more).length ≤ kvs.length + more.length
 | [], kvs => by show kvs.length ≤ kvs.length + 0; omega
 | p :: r, kvs => by
  have h1 := length_mergeK r (putK kvs p.1 p.2)
  have h2 := length_putK kvs p.1 p.2
  show (mergeK (putK kvs p.1 p.2) r).length ≤ _
  rw [List.length_cons]; omega
theorem carries_of {P : Program} {w : World} : ∀ {kvs : List (Key × V)} {ws : List (Value × Value)}, VV (kvs.map fun kv => (kV kv.1, kv.2)) ws → ∃ rs, Carries (mixKind P w) ws rs ∧ KV kvs rs
 | [], _, r => by rw [List.map_nil] at r; cases r; exact ⟨[], True.intro, .nil⟩
 | p :: kvs, _, r => by
  rw [List.map_cons] at r
  cases r with
  | @cons a b as bs h t =>
   obtain ⟨rs, c, q⟩ := carries_of (P := P) (w := w) t
   obtain ⟨b1, b2⟩ := b
   exact ⟨(p.1, b2) :: rs, ⟨kV_is h.1, rfl, c⟩, .cons ⟨rfl, h.2⟩ q⟩
noncomputable def tDisp (trs : List (TE × TE)) : TE := fun σ H Q => ∀ p, H p = none → tPairs trs σ (upd H p (.dK [])) fun ps H2 => H2 p = some (.dK []) ∧ ∃ kvs : List (Key × V), ps = kvs.map (fun kv => (kV kv.1, kv.2)) ∧ kvs.length ≤ 15 ∧ Q (.ref p) (upd H2 p (.dK (mergeK [] kvs)))
theorem pe_disp {X : Cx} {pos : Pos} {keys : List (Option Expr)} {values : List Expr} {trs : List (TE × TE)} (h : PPs X pos keys values trs) (hall : keys.all (·.isSome) = true) (hl : keys.length = values.length) (h0 : keys ≠ [])
  (h15 : keys.length ≤ 15) : PE X (.Dict keys values pos) (tDisp trs) := by
 constructor
 intro pins s σ H Q I q
 have hn := I.hok.fresh (Nat.le_refl s.heap.objs.size)
 have I1 := I.laid (a := s.heap.objs.size) (o := .dK []) (h' := s.heap.push { cls := .type "dict", data := .dict #[] }) (t' := s.toks) (fun _ _ q => Heap.get?_push_of_some _ q) (Nat.le_refl _) (dk_empty s.heap I.big)
 refine wpAny_Dict_walk (knd := mixKind X.prog X.w) hall hl h0 h15 (thn (h pins _ σ _ _ I1 (q _ hn)) fun ws s2 ⟨ps, H2, I2, rel, e, kvs, ep, lk, q2⟩ => ?_)
 subst ep
 obtain ⟨rs, c, rk⟩ := carries_of (P := X.prog) (w := X.w) rel
 obtain ⟨z, hd, vs0, r0, dd⟩ := dk_of I2.hok e
 cases r0
 refine ⟨rs, c, dd, fun h' dd' hs => ⟨.ref s.heap.objs.size, _, ?_, rfl, q2⟩⟩
 have hz : (mergeK [] kvs).length ≤ sizeLine := by
  have h1 := length_mergeK kvs []
  rw [List.length_nil] at h1
  rw [sizeLine_eq]; omega
 have he : ∃ q, h'.get? s.heap.objs.size = some q := let ⟨q, _, _, hq, _⟩ := dd'; ⟨q, hq⟩
 exact d_write I2 (by rw [e]; exact True.intro) hs he (dk_new hz hd (rk.merge .nil) dd')
structure M1 (X : Cx) (o : Expr) (m : Str) (apos : Pos) (e : Expr) (cpos : Pos) : Prop where
 base : attributeBase o m X.env (eval o X.env) = eval o X.env
 few : ((backTo cpos (starEach [e] X.env)).all (fun x => !x.1) && (backToKw cpos (keywordEach [] X.env)).all (fun x => x.1.isSome)
  && decide (([e] : List Expr).length + ([] : List Keyword).length + (if ([] : List Keyword).isEmpty then 0 else 1) < 30)) = true
 line : (apos.endLine == cpos.line) = true
 trees : backTo cpos (starEach [e] X.env) = [(false, eval e X.env)]
structure M2 (X : Cx) (o : Expr) (m : Str) (apos : Pos) (e f : Expr) (cpos : Pos) : Prop where
 base : attributeBase o m X.env (eval o X.env) = eval o X.env
 few : ((backTo cpos (starEach [e, f] X.env)).all (fun x => !x.1) && (backToKw cpos (keywordEach [] X.env)).all (fun x => x.1.isSome)
  && decide (([e, f] : List Expr).length + ([] : List Keyword).length + (if ([] : List Keyword).isEmpty then 0 else 1) < 30)) = true
 line : (apos.endLine == cpos.line) = true
 trees : backTo cpos (starEach [e, f] X.env) = [(false, eval e X.env), (false, eval f X.env)]
noncomputable def IsD (H : Hp) (a : Addr) : Prop := (∃ kvs, Rd H a (.dK kvs)) ∨ ∃ kvs, Rd H a (.dT kvs)
section
variable {X : Cx} {pins : List (Addr × Obj)} {σ : St} {H : Hp} {s : Shared} {a : Addr} {y d : V} {u r : Value} {o : Option V} {A : Around} {E : Value → Shared → Prop}
end
noncomputable def tDGet1 (td ty : TE) : TE := fun σ H Q => td σ H fun x H1 => ∃ a, x = .ref a ∧ IsD H1 a ∧ ty σ H1 fun y H2 => ∃ o, DGet H2 a y o ∧ Q (o.getD .non) H2
noncomputable def tDGet2 (td ty tx : TE) : TE := fun σ H Q => td σ H fun x H1 => ∃ a, x = .ref a ∧ IsD H1 a ∧ ty σ H1 fun y H2 => tx σ H2 fun z H3 => ∃ o, DGet H3 a y o ∧ Q (o.getD z) H3
noncomputable def tDPop1 (td ty : TE) : TE := fun σ H Q => td σ H fun x H1 => ∃ a, x = .ref a ∧ IsD H1 a ∧ ty σ H1 fun y H2 => ∃ kvs k v, H2 a = some (.dK kvs) ∧ y = kV k ∧ valV kvs k = some v ∧ Q v (upd H2 a (.dK (dropK kvs k)))
noncomputable def tDPop2 (td ty tx : TE) : TE := fun σ H Q => td σ H fun x H1 => ∃ a, x = .ref a ∧ IsD H1 a ∧ ty σ H1 fun y H2 => tx σ H2 fun z H3 => ∃ kvs k, H3 a = some (.dK kvs) ∧ y = kV k ∧
 (∀ v, valV kvs k = some v → Q v (upd H3 a (.dK (dropK kvs k)))) ∧ (valV kvs k = none → Q z H3)
section
variable {X : Cx} {o e f : Expr} {apos cpos : Pos} {td ty tx : TE}
end
section
variable {X : Cx} {pins : List (Addr × Obj)} {σ : St} {H : Hp} {s : Shared} {a : Addr} {kvs : List (Key × V)} {A : Around} {E : Value → Shared → Prop}
end
section
variable {X : Cx} {pins : List (Addr × Obj)} {σ : St} {H : Hp} {s : Shared} {a : Addr} {y : V} {u : Value} {A : Around} {E : Value → Shared → Prop}
end
end L2
namespace L2
open PySem PySem.Spec PyProof.Rows
section
variable {κ : Type} [DecidableEq κ]
end
end L2
namespace L2
open PySem PySem.Spec PyProof.Rows
structure CompSc2 (N : List Str) (fsc : Scope) (scope : Scope) (Nc : List Str) (caps : List (Option Nat)) : Prop where
 kind : scope.kind = .function
 nocell : ∀ y ∈ scope.names, y.2 ≠ .cell
 loc : ∀ y ∈ scope.names, y.2 = .local → scope.names.lookup y.1 = some .local
 fre : ∀ y ∈ scope.names, y.2 = .free → fsc.names.lookup y.1 = some .cell ∨ fsc.names.lookup y.1 = some .free
 len : caps.length = Nc.length
 nd : Nc.Nodup
 cap : (Nc.zip caps).all (capOk N scope) = true
noncomputable def GKeep (caps : List (Option Nat)) (g : TG) : Prop := ∀ (x : V) (σ : St) (H : Hp) (Q : St → Hp → Prop), g x σ H Q → g x σ H fun σ2 H2 => Q σ2 H2 ∧ σ2.length = σ.length ∧ ∀ (i k : Nat), caps[i]? = some (some k) → σ2[i]? = σ[i]?
noncomputable def CompG (J : It) (caps : List (Option Nat)) (g : TG) (ti : TT) (te : TE) (σ : St) (H1 : Hp) (D : Addr) (Q : VK) : Prop :=
 ∃ W : Nat → Nat → Hp → Prop, (∃ m, W 0 m (upd H1 D (.lst []))) ∧ ∀ i m H2, W i m H2 →
  (J.stop i H2 ∧ Q (.ref D) H2) ∨ (J.go i H2 ∧ ∀ x H3, J.yld i H2 x H3 → g x (capOf caps σ) H3 fun σ2 H3' => ti σ2 H3' fun b H4 => if b = true then te σ2 H4 fun v H5 =>
   ∃ ys, H5 D = some (.lst ys) ∧ ys.length < sizeLine ∧ ∃ m', m' < m ∧ W (i + 1) m' (upd H5 D (.lst (ys ++ [v]))) else ∃ m', m' < m ∧ W (i + 1) m' H4)
noncomputable def tCompG (wi : TI) (caps : List (Option Nat)) (g : TG) (ti : TT) (te : TE) : TE := fun σ H Q => wi σ H fun J H1 => ∀ D, H1 D = none → CompG J caps g ti te σ H1 D Q
theorem comp_core {X : Cx} {use : Option (Value → Sem Unit)} {Qv : Value → Shared → Prop} {pins : List (Addr × Obj)} {s : Shared} {σ : St} {H : Hp} {Q : VK} {elt iter tg : Expr} {g : TG} {ifs : List Expr} {scope : Scope} {pos : Pos} {N Nc : List Str} {fsc : Scope} {caps : List (Option Nat)} {wi : TI} {ti : TT} {te : TE} (S : CompSc2 N fsc scope Nc caps)
  (hi : PI X tg iter wi) (hg : ∀ cl C fp pn s₀ H₀, PG (compCx X scope Nc cl C fp pn s₀ H₀) tg g) (hk : GKeep caps g) (hif : ∀ cl C fp pn s₀ H₀, PF (compCx X scope Nc cl C fp pn s₀ H₀) ifs ti) (he : ∀ cl C fp pn s₀ H₀, PE (compCx X scope Nc cl C fp pn s₀ H₀) elt te)
  (hN : X.N = N) (hS : X.env.scope = fsc) (hs : ∀ y, foldedSetIterable iter X.env y = pure y) (I : Inv X pins σ H s) (h : tCompG wi caps g ti te σ H Q) {fpos : Pos}
  (hdone : ∀ (D C : Addr) (H6 : Hp) (s7 : Shared) (m : Str → Option Value), Inv X pins σ H6 s7 → s7.heap.Ns C m → FpOk X pins H6 C → Q (.ref D) H6 → compPost (model X.prog X.w) X.A X.xe use Qv (.ref D) C (.ok .next) s7) :
  wpAny (model X.prog X.w) X.A (comprehension (.ListComp elt [⟨tg, iter, ifs, 0⟩] scope pos) scope X.env fpos (newList []) false (eval iter X.env) use) Qv X.xe s := by
 subst hN hS
 obtain ⟨cl, hcl, hc1, hc2⟩ := closure_ok (scope := scope) (env := X.env) fun n hn => by
  refine I.ok.has n ?_
  exact S.fre _ hn rfl
 refine wpAny_comprehension_free (use := use) rfl hs hcl S.kind S.loc (thn (hi pins s σ H _ I h) fun v s1 h1 => thn h1 fun itv s2 h2 => ?_)
 obtain ⟨it, fp, tn, J, H2, rfl, I2, T, st2, f2, hR⟩ := h2
 obtain ⟨W, ⟨m0, w0⟩, turn⟩ := hR s2.heap.objs.size (I2.hok.fresh (Nat.le_refl _))
 have I3 := I2.lnew (its := []) (t' := s2.toks) .nil (Nat.zero_le _)
 refine wpAny_newObj_type (wpAny_newFunctionEnv S.nocell (by intro y hy; simp at hy) (fun h₁ hns₁ hsb₁ => ?_) S.kind)
 have hsz : (s2.heap.push { cls := .type "list", data := .seq ([] : List Value).toArray }).objs.size = s2.heap.objs.size + 1 := Heap.size_push ..
 generalize hs3 : ({ s2 with heap := s2.heap.push { cls := .type "list", data := .seq ([] : List Value).toArray } } : Shared) = s3 at I3 hns₁ hsb₁ ⊢
 have h3 : s3.heap = s2.heap.push { cls := .type "list", data := .seq ([] : List Value).toArray } := by rw [← hs3]
 have k4 : ∀ b u, s3.heap.get? b = some u → h₁.get? b = some u := fun b u q => hsb₁.extBut b u (Nat.ne_of_lt (Heap.lt_size q)) (Heap.get?_push_of_some _ q)
 have lt2 : ∀ b ∈ fp, b < s3.heap.objs.size := fun b hb => by
  obtain ⟨o, q, _⟩ := T.obj _ _ st2 b hb
  rw [h3, hsz]
  exact Nat.lt_succ_of_lt (Heap.lt_size q)
 have nst : ∀ b ∈ fp, b ∉ frs X.stack := fun b hb hm => by
  obtain ⟨_, f1, f3, _⟩ := f2 b hb
  exact (List.mem_cons.mp (I2.stkSub b hm)).elim f1 f3
 have nD : ∀ b ∈ fp, b ≠ s2.heap.objs.size := fun b hb z => by
  obtain ⟨o, q, _⟩ := T.obj _ _ st2 b hb
  exact absurd (Heap.lt_size q) (by rw [z]; exact Nat.lt_irrefl _)
 have pinS : ∀ p ∈ X.pn ++ pins, p.1 ∉ frs X.stack := fun p hp hm => by
  obtain ⟨_, _, ne, nf, _⟩ := I3.pin p hp
  exact (List.mem_cons.mp (I3.stkSub p.1 hm)).elim ne nf
 have relK : ∀ y k, (relabel scope X.env).names.lookup y = some k → scope.names.lookup y = some k ∨ (k = .cell ∧ scope.names.lookup y = some .free) := fun y k q => lookup_relabel q
 have okC : (compCx X scope Nc cl s3.heap.objs.size fp (X.pn ++ pins) s3 (upd H2 s2.heap.objs.size (.lst []))).Ok := by
  refine ⟨I.ok.mod, S.kind, I.ok.glob, I.ok.blt, Nat.le_refl _, fun y z c q1 q2 => I.ok.inj y z c (hc1 y c q1).1 (hc1 z c q2).1, fun y hy => ?_, (fun y c z => nomatch z), I.ok.hd, I.ok.frames, .inl rfl, fun b hb => ⟨Nat.ne_of_lt (lt2 b hb), fun y c e => (f2 b hb).2.2.2.2.1 y c (hc1 y c e).1⟩,
   I3.bs, Nat.le_trans I.ok.bsz I3.sz, fun b o e hb => ?_, nst, I3.stack, I3.stkFree, I.ok.hnd⟩
  ·have hm : (y, NameKind.free) ∈ scope.names := by
    have q : scope.names.lookup y = some .free := by
     rcases hy with hy | hy
     ·rcases relK y _ hy with q | q
      ·exact absurd rfl (S.nocell _ (PySem.mem_of_lookup q))
      ·exact q.2
     ·rcases relK y _ hy with q | q
      ·exact q
      ·exact absurd q.1 (by decide)
    exact PySem.mem_of_lookup q
   exact Option.isSome_iff_exists.mp (hc2 y hm)
  ·rcases (f2 b hb).2.2.2.1 with z | z
   ·exact I.ok.noex b o e z
   ·exact absurd (Nat.lt_of_lt_of_le (Heap.lt_size (I.ok.bs b o e).1) z) (Nat.lt_irrefl _)
 have lenC : (capOf caps σ).length = Nc.length := by unfold capOf; rw [List.length_map]; exact S.len
 have I4 : Inv (compCx X scope Nc cl s3.heap.objs.size fp (X.pn ++ pins) s3 (upd H2 s2.heap.objs.size (.lst []))) [] (capOf caps σ) (upd H2 s2.heap.objs.size (.lst [])) { s3 with heap := h₁, toks := s3.toks + ([] : List (Str × Value)).length } := by
  refine ⟨okC, rfl, I3.bare, Un.kept k4, ⟨_, hns₁, fun i y v e1 e2 e3 => ?_⟩, fun y c e => ?_, I3.hok.fresh (Nat.le_refl _), fun y c e => I3.freeC y c (hc1 y c e).1, fun p hp => ?_, I3.hok.kept k4, lenC, I3.hxs⟩
  ·obtain ⟨k, e4, e5⟩ := capOf_get e2
   have hz : (y, some k) ∈ Nc.zip caps := by
    refine List.mem_of_getElem? (i := i) ?_
    rw [List.getElem?_zip_eq_some]
    exact ⟨e1, e4⟩
   have hcap := List.all_eq_true.mp S.cap _ hz
   simp only [capOk, Bool.and_eq_true, decide_eq_true_eq] at hcap
   obtain ⟨c1, c2⟩ := hcap
   have fr := S.fre _ (PySem.mem_of_lookup c2) rfl
   obtain ⟨m, hn, hl⟩ := I3.loc
   obtain ⟨u, r, l⟩ := hl k y v c1 e5 (fr.elim (fun z => .inr (.inl z)) fun z => .inr (.inr z))
   refine ⟨u, r, ?_⟩
   rcases l with ⟨z, _⟩ | ⟨_, c, e6, e7⟩
   ·have z' : X.env.scope.names.lookup y = some .local := z
    rcases fr with q | q
    ·rw [z'] at q; cases q
    ·rw [z'] at q; cases q
   ·refine .inr ⟨?_, c, ?_, ?_⟩
    ·rcases e3 with q | q | q
     ·rcases relK y _ q with z | z
      ·rw [c2] at z; cases z
      ·exact absurd z.1 (by decide)
     ·exact .inl q
     ·exact .inr q
    ·obtain ⟨c', z⟩ := Option.isSome_iff_exists.mp (hc2 y (PySem.mem_of_lookup c2))
     have := (hc1 y c' z).1
     rw [e6] at this; cases this
     exact z
    ·obtain ⟨oc, z1, z2⟩ := e7
     exact ⟨oc, k4 _ _ z1, z2⟩
  ·obtain ⟨v, oc, z1, z2⟩ := I3.cell y c (hc1 y c e).1
   exact ⟨v, oc, k4 _ _ z1, z2⟩
  ·rw [List.append_nil] at hp
   obtain ⟨e, n, ne, nf, d⟩ := I3.pin p hp
   exact ⟨k4 _ _ e, n, Nat.ne_of_lt (Heap.lt_size e), pinS p hp, d⟩
 have st4 : tn 0 h₁ := T.keep _ _ _ st2 fun b hb o q => k4 b o (by rw [h3]; exact Heap.get?_push_of_some _ q)
 have fr4 : ∀ b ∈ fp, (upd H2 s2.heap.objs.size (.lst [])) b = none := fun b hb => by rw [upd_ne (nD b hb)]; exact (f2 b hb).1
 have stat : ∀ {H' : Hp}, (∀ b ∈ fp, H' b = none) → ∀ b ∈ fp, FpOk (compCx X scope Nc cl s3.heap.objs.size fp (X.pn ++ pins) s3 (upd H2 s2.heap.objs.size (.lst []))) [] H' b := fun hn b hb => by
  obtain ⟨g0, g1, g2, g3, g4, g5⟩ := f2 b hb
  exact ⟨hn b hb, Nat.ne_of_lt (lt2 b hb), nst b hb, .inl hb, fun y c e => g4 y c (hc1 y c e).1, fun p hp => g5 p (by rw [List.append_nil] at hp; exact hp)⟩
 have loop : ∀ s5 : Shared, s5 = { s3 with heap := h₁, toks := s3.toks + ([] : List (Str × Value)).length } →
   codeAny (model X.prog X.w) X.A (.compLoop (.ListComp elt [⟨tg, iter, ifs, 0⟩] scope pos) 0 (.ref it) (.ref s2.heap.objs.size) (compEnvC scope cl s3.heap.objs.size X.env)) (compPost (model X.prog X.w) X.A X.xe use Qv (.ref s2.heap.objs.size) s3.heap.objs.size) s5 := by
  intro s5 e5
  refine comp_loop (fun n s' => ∃ i H', Inv (compCx X scope Nc cl s3.heap.objs.size fp (X.pn ++ pins) s3 (upd H2 s2.heap.objs.size (.lst []))) [] (capOf caps σ) H' s' ∧ tn i s'.heap ∧ (∀ b ∈ fp, H' b = none) ∧ W i n H') ?_ m0 ⟨0, _, by rw [e5]; exact I4, by rw [e5]; exact st4, fr4, w0⟩
  rintro n s6 ⟨i, H6, I6, st6, fr6, w6⟩
  rcases turn i n H6 w6 with ⟨stop, qn⟩ | ⟨go, step⟩
  ·refine thn (T.done (compCx X scope Nc cl s3.heap.objs.size fp (X.pn ++ pins) s3 (upd H2 s2.heap.objs.size (.lst []))) rfl rfl rfl rfl i [] s6 _ H6 _ I6 (stat fr6) st6 stop) fun r s7 ⟨hr, I7⟩ => ?_
   subst hr
   obtain ⟨m, hn, _⟩ := id I7.loc
   have hfree : H6 s3.heap.objs.size = none := I7.free
   refine hdone s2.heap.objs.size s3.heap.objs.size H6 s7 m ?_ hn (I3.fpOk (Nat.le_refl _) hfree) qn
   have un := I7.base
   refine I3.call' (s' := s7) (ch := fp) I7.os ⟨un.keep, un.slot, un.free, un.there, un.tups, un.frzs, un.tbls⟩ (fun b u e => ?_) I7.bare fun b hb => ?_
   ·exact I7.hok b u e
   ·obtain ⟨g0, g1, g2, g3, g4, g5⟩ := f2 b hb
    exact ⟨g3, g1, g4, g5⟩
  ·refine thn (T.item (compCx X scope Nc cl s3.heap.objs.size fp (X.pn ++ pins) s3 (upd H2 s2.heap.objs.size (.lst []))) rfl rfl rfl rfl i [] s6 _ H6 _ I6 (stat fr6) st6 go) fun r s7 ⟨u, hr, h7⟩ => ?_
   subst hr
   refine thn h7 fun _ s8 ⟨y, H8, I8, r8, y8, st8, fr8⟩ => ?_
   have I8' := I8.pinned (stat fr8) (T.obj _ _ st8)
   refine thn (hg cl s3.heap.objs.size fp (X.pn ++ pins) s3 _ _ s8 _ H8 y u _ I8' r8 (hk _ _ _ _ (step y H8 y8))) fun _ s9 ⟨σ9, H9, I9, q9, l9, k9⟩ => ?_
   have weak : ∀ {H' : Hp} {s' : Shared}, Inv (compCx X scope Nc cl s3.heap.objs.size fp (X.pn ++ pins) s3 (upd H2 s2.heap.objs.size (.lst []))) ([] ++ pinsAt fp s8.heap) σ9 H' s' →
     Inv (compCx X scope Nc cl s3.heap.objs.size fp (X.pn ++ pins) s3 (upd H2 s2.heap.objs.size (.lst []))) [] (capOf caps σ) H' s' ∧ tn (i + 1) s'.heap ∧ (∀ b ∈ fp, H' b = none) := fun {H' s'} J => by
    refine ⟨(J.weak (σ' := capOf caps σ) l9.symm fun i' v e => ?_).unpinned, T.keep _ _ _ st8 fun b hb o e => (J.pin (b, o) (List.mem_append_right _ (List.mem_append_right _ (mem_pinsAt hb e)))).1, fun b hb => ?_⟩
    ·obtain ⟨k, e4, _⟩ := capOf_get e
     rw [k9 i' k e4]
     exact e
    ·obtain ⟨o, e, d⟩ := T.obj _ _ st8 b hb
     exact (J.pin (b, o) (List.mem_append_right _ (List.mem_append_right _ (mem_pinsAt hb e)))).2.1
   refine thn (hif cl s3.heap.objs.size fp (X.pn ++ pins) s3 _ _ s9 _ H9 _ I9 q9) fun b s10 ⟨H10, I10, q10⟩ => ?_
   cases b with
   | false =>
    obtain ⟨m', hm, w'⟩ := q10
    obtain ⟨J, t1, f1⟩ := weak I10
    exact ⟨m', hm, i + 1, H10, J, t1, f1, w'⟩
   | true =>
    rw [if_pos rfl]
    refine thn (he cl s3.heap.objs.size fp (X.pn ++ pins) s3 _ _ s10 _ H10 _ I10 q10) fun e s11 ⟨ev, H11, I11, r11, ys, hD, hl, m', hm, w'⟩ => ?_
    refine thn (mt_append _ s11 _ H11 (.ref s2.heap.objs.size) [ev] (.ref s2.heap.objs.size) [e] (fun v H' => v = .non ∧ H' = upd H11 s2.heap.objs.size (.lst (ys ++ [ev]))) I11 rfl (.cons r11 .nil) ⟨_, ys, ev, rfl, rfl, hD, hl, rfl, rfl⟩) fun _ s12 ⟨v12, H12, I12, _, _, e12⟩ => ?_
    subst e12
    obtain ⟨J, t1, f1⟩ := weak I12
    exact ⟨m', hm, i + 1, _, J, t1, f1, w'⟩
 exact codeAny_compStart_list (loop _ rfl) (T.self _ 0 _ _ _ st4 (loop _ rfl))
theorem pe_compG {X : Cx} {elt iter tg : Expr} {g : TG} {ifs : List Expr} {scope : Scope} {pos : Pos} {N Nc : List Str} {fsc : Scope} {caps : List (Option Nat)} {wi : TI} {ti : TT} {te : TE} (S : CompSc2 N fsc scope Nc caps)
  (hi : PI X tg iter wi) (hg : ∀ cl C fp pn s₀ H₀, PG (compCx X scope Nc cl C fp pn s₀ H₀) tg g) (hk : GKeep caps g) (hif : ∀ cl C fp pn s₀ H₀, PF (compCx X scope Nc cl C fp pn s₀ H₀) ifs ti) (he : ∀ cl C fp pn s₀ H₀, PE (compCx X scope Nc cl C fp pn s₀ H₀) elt te)
  (hN : X.N = N := by rfl) (hS : X.env.scope = fsc := by rfl) (hs : ∀ y, foldedSetIterable iter X.env y = pure y := by intro _; rfl) :
  PE X (.ListComp elt [⟨tg, iter, ifs, 0⟩] scope pos) (tCompG wi caps g ti te) := by
 constructor
 intro pins s σ H Q I h
 rw [eval_ListComp]
 refine comp_core (use := none) S hi hg hk hif he hN hS hs I h fun D C H6 s7 m I7 hn hf q => ⟨m, hn, fun h' hs' => ⟨.ref D, H6, ?_, rfl, q⟩⟩
 obtain ⟨f0, f1, f2, f3, f4, f5⟩ := hf
 exact I7.turned (t' := s7.toks) (fun b o hb e => (hs'.2 b hb).trans e) f0 f1 f3 f4 f5
theorem pg_comp {X : Cx} {scope : Scope} {Nc : List Str} {cl : List (Str × Addr)} {C : Addr} {fp : List Addr} {pn : List (Addr × Obj)} {s₀ : Shared} {H₀ : Hp} {x : Str} {j : Nat} {p : Pos} (nd : Nc.Nodup) (hj : Nc[j]? = some x) (hl : scope.names.lookup x = some .local) :
  PG (compCx X scope Nc cl C fp pn s₀ H₀) (.Name x p) (gName j) :=
 pg_name (X := compCx X scope Nc cl C fp pn s₀ H₀) nd hj (.inl (lookup_relabel_local hl)) (.inr (lookup_relabel_local hl))
theorem gk_name {caps : List (Option Nat)} {j : Nat} (h0 : caps[j]? = some none) : GKeep caps (gName j) := by
 intro x σ H Q q
 refine ⟨q, by rw [List.length_set], fun i k hi => ?_⟩
 have n0 : i ≠ j := fun z => by rw [z, h0] at hi; cases hi
 rw [List.getElem?_set_ne (Ne.symm n0)]
section
variable {X : Cx} {N : List Str} {sc : Scope} {pos : Pos}
theorem cmp {elt iter : Expr} {x : Str} {px : Pos} {ifs : List Expr} {scope : Scope} {Nc Lc : List Str} {caps : List (Option Nat)} {j : Nat} {wi : TI} {ti : TT} {te : TE} (S : CompSc N sc scope Nc caps j x)
  (hi : PI X (.Name x px) iter wi) (hif : ∀ cl C fp pn s₀ H₀, Vs Nc (relabel scope X.env) → Gs Lc (relabel scope X.env) → PF (compCx X scope Nc cl C fp pn s₀ H₀) ifs ti) (he : ∀ cl C fp pn s₀ H₀, Vs Nc (relabel scope X.env) → Gs Lc (relabel scope X.env) → PE (compCx X scope Nc cl C fp pn s₀ H₀) elt te)
  (hV : Nc.all (visOk scope) = true := by decide +kernel) (hG : Lc.all (gloOk scope) = true := by decide +kernel) (hN : X.N = N := by rfl) (hS : X.env.scope = sc := by rfl) (hs : ∀ y, foldedSetIterable iter X.env y = pure y := by intro _; rfl) :
  PE X (.ListComp elt [⟨.Name x px, iter, ifs, 0⟩] scope pos) (tComp wi caps j ti te) :=
 pe_compG (g := gName j) (caps := caps) ⟨S.kind, S.nocell, S.loc, S.fre, S.len, S.nd, S.cap⟩ hi (fun cl C fp pn s₀ H₀ => pg_comp S.nd S.var S.own) (gk_name S.slot) (fun cl C fp pn s₀ H₀ => hif cl C fp pn s₀ H₀ ((Vs.of hV).re _) ((Gs.of hG).re _)) (fun cl C fp pn s₀ H₀ => he cl C fp pn s₀ H₀ ((Vs.of hV).re _) ((Gs.of hG).re _)) hN hS hs
end
end L2
namespace L2
open PySem PySem.Spec PyProof.Rows
section
variable {prog : Program} {w : World} {A : Around} {E : Value → Shared → Prop} {s : Shared} {d : Addr} {kvs : List (Key × Value)} {ep : Nat}
end
section
variable {X : Cx}
end
end L2
namespace L2
open PySem PySem.Spec PyProof.Rows
section
variable {X : Cx}
noncomputable def rEqS (K : PySem.W.Frag) : R2 := fun x y H Q => ∃ z, y = .str z ∧ ((∃ t, x = .str t ∧ Q (.bl (decide (V.str t = .str z))) H) ∨ ∃ p xs, x = .ref p ∧ SqL K H p xs ∧ Q (.bl false) H)
end
theorem comp_filter {K : PySem.W.Frag} {a : Addr} {xs : List V} {caps : List (Option Nat)} {j : Nat} {ti : TT} {te : TE} {σ : St} {H1 : Hp} {D : Addr} {Q : VK} (f : V → V) (keep : V → Bool) (ha : SqL K H1 a xs) (hD : H1 D = none) (hn : xs.length ≤ 100000)
  (tst : ∀ x H2 Q', x ∈ xs → Same H1 H2 → Q' (keep x) H2 → ti ((capOf caps σ).set j (some x)) H2 Q')
  (step : ∀ x H2 Q', x ∈ xs → keep x = true → Same H1 H2 → Q' (f x) H2 → te ((capOf caps σ).set j (some x)) H2 Q')
  (fin : ∀ H2, Same H1 H2 → H2 D = some (.lst ((xs.filter keep).map f)) → Q (.ref D) H2) : CompW (Itl K a) caps j ti te σ H1 D Q := by
 have hz : 100000 < sizeLine := by decide
 refine ⟨fun i m H2 => m = xs.length - i ∧ i ≤ xs.length ∧ Same H1 H2 ∧ H2 D = some (.lst (((xs.take i).filter keep).map f)), ⟨xs.length, by simp, Nat.zero_le _, Same.new hD _, upd_same⟩, ?_⟩
 rintro i m H2 ⟨rfl, hi, sm, hl⟩
 by_cases hlt : i < xs.length
 ·refine .inr ⟨⟨xs, xs[i], sm.seq ha, by simp [hlt]⟩, fun x H3 y => ?_⟩
  obtain ⟨rfl, y⟩ := y
  have hx := y xs (sm.seq ha)
  rw [List.getElem?_eq_getElem hlt] at hx
  cases hx
  refine tst _ _ _ (List.getElem_mem hlt) sm ?_
  have hlen : ((xs.take i).filter keep).length ≤ i := by have := List.length_filter_le keep (xs.take i); rw [List.length_take] at this; omega
  have ht : xs.take (i + 1) = xs.take i ++ [xs[i]] := List.take_succ_eq_append_getElem hlt
  cases hk : keep xs[i] with
  | true =>
   rw [if_pos rfl]
   refine step _ _ _ (List.getElem_mem hlt) hk sm ⟨_, hl, by rw [List.length_map]; omega, xs.length - (i + 1), by omega, rfl, by omega, sm.upd hD hl _, ?_⟩
   rw [upd_same, ht, List.filter_append, List.map_append]
   simp [hk]
  | false =>
   rw [if_neg Bool.false_ne_true]
   refine ⟨xs.length - (i + 1), by omega, rfl, by omega, sm, ?_⟩
   rw [hl, ht, List.filter_append, List.map_append]
   simp [hk]
 ·have e : i = xs.length := by omega
  subst e
  rw [List.take_length] at hl
  exact .inl ⟨⟨xs, sm.seq ha, Nat.le_refl _⟩, fin H2 sm hl⟩
end L2
namespace L2
open PySem PySem.Spec PyProof.Rows
section
variable {X : Cx}
noncomputable def rCount : V → List V → Hp → VK → Prop := fun x vs H Q => ∃ l xs y, x = .ref l ∧ vs = [y] ∧ H l = some (.lst xs) ∧ xs.all flatV = true ∧ flatV y = true ∧ Q (.int (xs.countP fun z => eqV z y : Nat)) H
theorem ints_are {ns : List Int} : ∀ {us : List Value}, Vals (ns.map V.int) us → IntsAre us ns := by
 induction ns with
 | nil => intro us r; cases r; exact .nil
 | cons n ns ih =>
  intro us r
  cases r with
  | cons p r =>
   obtain ⟨t, rfl⟩ := p
   exact .cons n t (ih r)
theorem vals_of_ints {us : List Value} {ns : List Int} (h : IntsAre us ns) : Vals (ns.map V.int) us := by
 induction h with
 | nil => exact .nil
 | cons n t _ ih => exact .cons ⟨t, rfl⟩ ih
theorem call_sorted : CallR X (.builtin "sorted") (fun xs H Q => ∃ (p : Addr) (ns : List Int), xs = [.ref p] ∧ SqL X.K H p (ns.map V.int) ∧ ns.length < 64 ∧ ∀ l (ns' : List Int), H l = none → ns'.Perm ns → ns'.Pairwise (· ≤ ·) → Q (.ref l) (upd H l (.lst (ns'.map V.int)))) := by
  intro pins s σ H xs us Q I r h
  obtain ⟨p, ns, rfl, hq, h64, q⟩ := h
  obtain ⟨u, rfl, rx⟩ := vals1 r
  cases rx
  obtain ⟨its, rv, pl, hz⟩ := I.list hq
  have hl := rv.length
  rw [List.length_map] at hl
  refine sorted_ints pl.isList (ints_are rv) (by omega) fun out ns' hI hp hs => ?_
  obtain ⟨e, hg⟩ := sortedAll_at s.heap its out
  have hlen : ns'.length ≤ sizeLine := by rw [hp.length_eq]; have : 64 ≤ sizeLine := by decide
                                          omega
  refine ⟨.ref _, _, I.laid (t' := s.toks) (o := .lst (ns'.map V.int)) (fun b o q => sortedAll_old q) (Nat.le_succ _) ⟨by rw [List.length_map]; exact hlen, out.toList, e, vals_of_ints hI, hg⟩, rfl, q _ ns' (I.hok.fresh (Nat.le_succ _)) hp hs⟩
end
section
variable {X : Cx} {e st : Expr} {te : TE} {ts : TO} {p2 pos : Pos}
noncomputable def tRev (K : PySem.W.Frag) (te : TE) (ts : TO) : TE := fun σ H Q => te σ H fun x H1 => ts σ H1 fun y H2 => ∃ a xs, x = .ref a ∧ y = some (-1) ∧ SqL K H2 a xs ∧ ∀ p, H2 p = none → Q (.ref p) (upd H2 p (.lst xs.reverse))
end
structure OwnM (P : Program) (w : World) (K : PySem.W.Frag) (mg : Str → Option Value) (base : Heap) (c : Bool) (k : Nat) (C : Addr) (m : Str) (ps : List Str) (sp : Sp) : Prop where
 ex : ∃ f fd, FnOk P w K mg base (CX1 P w) c k f fd ps sp ∧ Binds K fd ps [] ∧ Meth K C m f
structure OwnC (P : Program) (w : World) (K : PySem.W.Frag) (mg : Str → Option Value) (base : Heap) (c : Bool) (k : Nat) (C : Addr) (ps : List Str) (sp : Sp) : Prop where
 ex : ∃ f fd, FnOk P w K mg base (CX1 P w) c k f fd ps sp ∧ Binds K fd ps [] ∧ Mk K C f
section
variable {X : Cx} {c : Bool} {k : Nat} {C : Addr} {m x : Str} {ps L : List Str} {sc : Scope} {sp : Sp} {E : XK} {apos p pos : Pos} {o e : Expr} {es : List Expr} {ta : TE} {t : TA}
theorem cMe {pl : Sem Bool} (O : OwnM X.prog X.w X.K X.mg X.base c k C m ps sp) (cl : Cls X.K C) (hr : Room k X.A) (hx : Passes (CX1 X.prog X.w) X E) (he : PE X o ta) (ha : PA X (e :: es) t)
  (hca : c = true → X.calm = true := by first | exact fun h => h | exact fun _ => rfl | exact fun h => nomatch h) (hst : starEach (e :: es) X.env = (false, eval e X.env) :: starEach es X.env := by rfl) (hpl : (backTo pos (starEach es X.env)).any (·.1) = false := by rfl)
  (ht : eval (.Call (.Attribute o m apos) (e :: es) [] pos) X.env = (do
   let ov ← eval o X.env
   standAt apos.atName
   let (f, first) ← holding [ov] (getMethod ov m pl)
   callWith pos f first (backTo pos (starEach (e :: es) X.env)) (backToKw pos (keywordEach [] X.env))) := by rfl) :
  PE X (.Call (.Attribute o m apos) (e :: es) [] pos) (tMeth C m sp [] E ta t) := by
 obtain ⟨f, fd, F, hb, hm⟩ := O.ex
 exact pe_meth he cl hm F hca hr hb .nil hx ha hst hpl ht
theorem cMe0 {pl : Sem Bool} (O : OwnM X.prog X.w X.K X.mg X.base c k C m ps sp) (cl : Cls X.K C) (hr : Room k X.A) (hx : Passes (CX1 X.prog X.w) X E) (he : PE X o ta)
  (hca : c = true → X.calm = true := by first | exact fun h => h | exact fun _ => rfl | exact fun h => nomatch h)
  (ht : eval (.Call (.Attribute o m apos) [] [] pos) X.env = (do
   let ov ← eval o X.env
   standAt apos.atName
   let (f, first) ← holding [ov] (getMethod ov m pl)
   callWith pos f first (backTo pos (starEach [] X.env)) (backToKw pos (keywordEach [] X.env))) := by rfl) :
  PE X (.Call (.Attribute o m apos) [] [] pos) (tMeth C m sp [] E ta tNil) := by
 obtain ⟨f, fd, F, hb, hm⟩ := O.ex
 exact pe_meth0 he cl hm F hca hr hb .nil hx ht
theorem cMk {i : Nat} (G : Gs L sc) (O : OwnC X.prog X.w X.K X.mg X.base c k C ps sp) (hm : X.mg x = some (.ref C)) (hr : Room (k + 1) X.A) (hx : Passes (CX1 X.prog X.w) X E) (ha : PA X (e :: es) t)
  (hca : c = true → X.calm = true := by first | exact fun h => h | exact fun _ => rfl | exact fun h => nomatch h) (hL : L[i]? = some x := by rfl) (h2 : X.env.scope = sc := by rfl)
  (he : starEach (e :: es) X.env = (false, eval e X.env) :: starEach es X.env := by rfl) (hpl : (backTo pos (starEach es X.env)).any (·.1) = false := by rfl) :
  PE X (.Call (.Name x p) (e :: es) [] pos) (tMake C sp [] E t) := by
 obtain ⟨f, fd, F, hb, M⟩ := O.ex
 exact pe_make M F hca hr (glX G hL h2) hm hb .nil hx ha (G.dbg i x hL) he hpl
end
end L2
namespace L2
open PySem PySem.W PyProof.Rows
structure LtOk (lt : Nat → Nat → Bool) : Prop where
 irr : ∀ a, lt a a = false
 tr : ∀ a b c, lt b a = false → lt c b = false → lt c a = false
 asym : ∀ a b, lt a b = true → lt b a = false
noncomputable def ixA (p : Array Nat) (k : Nat) : Nat := p.getD k 0
noncomputable def Srt (lt : Nat → Nat → Bool) (p : Array Nat) (m : Nat) : Prop := ∀ i j, i ≤ j → j < m → lt (ixA p j) (ixA p i) = false
noncomputable def NonI (lt : Nat → Nat → Bool) (p : Array Nat) (m : Nat) : Prop := ∀ i j, i ≤ j → j < m → lt (ixA p i) (ixA p j) = false
noncomputable def EqR (lt : Nat → Nat → Bool) (p : Array Nat) (a m : Nat) : Prop := ∀ i j, a ≤ i → i < m → a ≤ j → j < m → lt (ixA p i) (ixA p j) = false
theorem ixA_eq (p : Array Nat) (k : Nat) : ixA p k = (p[k]?).getD 0 := by unfold ixA; simp [Array.getD_eq_getD_getElem?]
theorem ixA_rev {p : Array Nat} {i j : Nat} (hj : j ≤ p.size) (k : Nat) : ixA (kas_rev p i j) k = if i ≤ k ∧ k < j then ixA p (i + j - 1 - k) else ixA p k := by
 unfold kas_rev
 rw [ixA_eq, getElem?_mirror_all hj]
 split
 ·rw [ixA_eq]
 ·rw [ixA_eq]
theorem ixA_bub {p : Array Nat} {k l : Nat} (hk : k < p.size) (hl : l ≤ k) (j : Nat) : ixA (bubble p k (k - l)) j = if j = l then ixA p k else if l < j ∧ j ≤ k then ixA p (j - 1) else ixA p j := by
 rw [ixA_eq, getElem?_bubble hk (k - l) (by omega), show k - (k - l) = l by omega]
 by_cases c1 : j = l
 ·rw [if_pos c1, if_pos c1, ixA_eq]
 ·rw [if_neg c1, if_neg c1]
  by_cases c2 : l < j ∧ j ≤ k
  ·rw [if_pos c2, if_pos c2, ixA_eq]
  ·rw [if_neg c2, if_neg c2, ixA_eq]
noncomputable def PmR (n : Nat) (p : Array Nat) : Prop := p.Perm (List.range n).toArray
theorem PmR.size {n : Nat} {p : Array Nat} (h : PmR n p) : p.size = n := by have := h.size_eq; simpa using this
theorem PmR.lt {n : Nat} {p : Array Nat} (h : PmR n p) {k : Nat} (hk : k < n) : ixA p k < n := by
 have hs := h.size
 have hm : ixA p k ∈ p := by
  unfold ixA
  rw [Array.getD_eq_getD_getElem?, Array.getElem?_eq_getElem (by omega)]
  exact Array.getElem_mem _
 have := (h.mem_iff).mp hm
 simpa using this
theorem PmR.rev {n : Nat} {p : Array Nat} (h : PmR n p) (i j : Nat) : PmR n (kas_rev p i j) := (mirror_perm _ _ _ _).trans h
theorem PmR.bub {n : Nat} {p : Array Nat} (h : PmR n p) (i j : Nat) : PmR n (bubble p i j) := (bubble_perm _ _ _).trans h
section
variable {lt : Nat → Nat → Bool} (O : LtOk lt) {n : Nat} {cmp : Nat → Nat → (Bool → Shared → Prop) → Shared → Prop} {s : Shared} (hc : ∀ i j C, i < n → j < n → C (lt i j) s → cmp i j C s)
include O hc
theorem wp_asc {p : Array Nat} (hp : PmR n p) : ∀ (f a : Nat) {Q : Nat → Shared → Prop}, 1 ≤ a → a + f ≤ n → Srt lt p a → (∀ m, a ≤ m → m ≤ a + f → Srt lt p m → (m = a + f ∨ lt (ixA p m) (ixA p (m - 1)) = true) → Q m s) → (kas_asc p f a).kasWp cmp Q s
 | 0, a, Q, h1, h2, hs, h => h a (Nat.le_refl _) (Nat.le_refl _) hs (.inl rfl)
 | f + 1, a, Q, h1, h2, hs, h => by
  refine hc _ _ _ (hp.lt (show a < n by omega)) (hp.lt (show a - 1 < n by omega)) ?_
  show KasT.kasWp cmp (if lt (ixA p a) (ixA p (a - 1)) = true then KasT.ret a else kas_asc p f (a + 1)) Q s
  cases e : lt (ixA p a) (ixA p (a - 1)) with
  | true => exact h a (Nat.le_refl _) (by omega) hs (.inr e)
  | false =>
   refine wp_asc hp f (a + 1) (by omega) (by omega) (fun i j hij hj => ?_) fun m m1 m2 m3 m4 => h m (by omega) (by omega) m3 (m4.imp (fun z => by omega) id)
   by_cases c : j < a
   ·exact hs i j hij c
   ·have : j = a := by omega
    subst this
    by_cases c2 : i = j
    ·subst c2; exact O.irr _
    ·exact O.tr _ _ _ (hs i (j - 1) (by omega) (by omega)) e
theorem wp_desc : ∀ (f : Nat) (p : Array Nat) (m q : Nat) {Q : Array Nat × Nat × Nat → Shared → Prop}, PmR n p → 1 ≤ m → m + f ≤ n → NonI lt p m → q + 1 ≤ m → EqR lt p (m - (q + 1)) m →
  (∀ p' m' q', PmR n p' → 1 ≤ m' → m' ≤ m + f → NonI lt p' m' → q' + 1 ≤ m' → EqR lt p' (m' - (q' + 1)) m' → Q (p', m', q') s) → (kas_desc f p m q).kasWp cmp Q s
 | 0, p, m, q, Q, hp, h1, h2, hs, hq, he, h => h p m q hp h1 (Nat.le_refl _) hs hq he
 | f + 1, p, m, q, Q, hp, h1, h2, hs, hq, he, h => by
  have hz := hp.size
  refine hc _ _ _ (hp.lt (show m < n by omega)) (hp.lt (show m - 1 < n by omega)) ?_
  show KasT.kasWp cmp (if lt (ixA p m) (ixA p (m - 1)) = true then (if q > 0 then kas_desc f (kas_rev p (m - (q + 1)) m) (m + 1) 0 else kas_desc f p (m + 1) 0) else .ask (ixA p (m - 1)) (ixA p m) fun d => if d = true then .ret (p, m, q) else kas_desc f p (m + 1) (q + 1)) Q s
  cases e : lt (ixA p m) (ixA p (m - 1)) with
  | true =>
   have le1 : ∀ i, i < m → lt (ixA p i) (ixA p m) = false := fun i hi => O.tr _ _ _ (O.asym _ _ e) (hs i (m - 1) (by omega) (by omega))
   show KasT.kasWp cmp (if q > 0 then kas_desc f (kas_rev p (m - (q + 1)) m) (m + 1) 0 else kas_desc f p (m + 1) 0) Q s
   by_cases c : q > 0
   ·rw [if_pos c]
    have hm : m ≤ p.size := by omega
    refine wp_desc f _ (m + 1) 0 (hp.rev _ _) (by omega) (by omega) (fun i j hij hj => ?_) (by omega) (fun i j a1 a2 a3 a4 => ?_) fun p' m' q' a1 a2 a3 a4 a5 a6 => h p' m' q' a1 a2 (by omega) a4 a5 a6
    ·have ej := ixA_rev (i := m - (q + 1)) hm j
     have ei := ixA_rev (i := m - (q + 1)) hm i
     by_cases cj : j = m
     ·subst cj
      rw [if_neg (by omega)] at ej
      rw [ej]
      by_cases ci : i = j
      ·subst ci; rw [if_neg (by omega)] at ei; rw [ei]; exact O.irr _
      ·rw [ei]; split
       ·exact le1 _ (by omega)
       ·exact le1 _ (by omega)
     ·rw [ei, ej]
      by_cases ci : m - (q + 1) ≤ i ∧ i < m
      ·rw [if_pos ci, if_pos (by omega)]
       exact he _ _ (by omega) (by omega) (by omega) (by omega)
      ·rw [if_neg ci]
       by_cases cj2 : m - (q + 1) ≤ j ∧ j < m
       ·rw [if_pos cj2]; exact hs _ _ (by omega) (by omega)
       ·rw [if_neg cj2]; exact hs _ _ hij (by omega)
    ·have : i = j := by omega
     subst this; exact O.irr _
   ·rw [if_neg c]
    refine wp_desc f _ (m + 1) 0 hp (by omega) (by omega) (fun i j hij hj => ?_) (by omega) (fun i j a1 a2 a3 a4 => ?_) fun p' m' q' a1 a2 a3 a4 a5 a6 => h p' m' q' a1 a2 (by omega) a4 a5 a6
    ·by_cases cj : j = m
     ·subst cj
      by_cases ci : i = j
      ·subst ci; exact O.irr _
      ·exact le1 _ (by omega)
     ·exact hs _ _ hij (by omega)
    ·have : i = j := by omega
     subst this; exact O.irr _
  | false =>
   refine hc _ _ _ (hp.lt (show m - 1 < n by omega)) (hp.lt (show m < n by omega)) ?_
   show KasT.kasWp cmp (if lt (ixA p (m - 1)) (ixA p m) = true then .ret (p, m, q) else kas_desc f p (m + 1) (q + 1)) Q s
   cases e2 : lt (ixA p (m - 1)) (ixA p m) with
   | true => exact h p m q hp h1 (by omega) hs hq he
   | false =>
    have le1 : ∀ i, i < m → lt (ixA p i) (ixA p m) = false := fun i hi => O.tr _ _ _ e2 (hs i (m - 1) (by omega) (by omega))
    refine wp_desc f p (m + 1) (q + 1) hp (by omega) (by omega) (fun i j hij hj => ?_) (by omega) (fun i j a1 a2 a3 a4 => ?_) fun p' m' q' a1 a2 a3 a4 a5 a6 => h p' m' q' a1 a2 (by omega) a4 a5 a6
    ·by_cases cj : j = m
     ·subst cj
      by_cases ci : i = j
      ·subst ci; exact O.irr _
      ·exact le1 _ (by omega)
     ·exact hs _ _ hij (by omega)
    ·by_cases ci : i = m
     ·subst ci
      by_cases cj : j = i
      ·subst cj; exact O.irr _
      ·exact O.tr _ _ _ (he (i - 1) j (by omega) (by omega) (by omega) (by omega)) e
     ·by_cases cj : j = m
      ·subst cj; exact le1 _ (by omega)
      ·exact he i j (by omega) (by omega) (by omega) (by omega)
theorem wp_tail {p : Array Nat} {m nrem : Nat} {Q : Nat × Array Nat → Shared → Prop} (hp : PmR n p) (h1 : 1 ≤ m) (h2 : m ≤ nrem) (hn : nrem ≤ n) (hs : NonI lt p m) (h : ∀ m' p', PmR n p' → 1 ≤ m' → m' ≤ nrem → Srt lt p' m' → Q (m', p') s) : (kas_tail3 m nrem p).kasWp cmp Q s := by
 have hz := hp.size
 unfold kas_tail3
 rw [KasT.kasWp_bind]
 refine wp_asc O hc (hp.rev 0 m) (nrem - m) m h1 (by omega) (fun i j hij hj => ?_) fun m' a1 a2 a3 _ => h m' _ (hp.rev 0 m) (by omega) (by omega) a3
 rw [ixA_rev (by omega), ixA_rev (by omega), if_pos (by omega), if_pos (by omega)]
 exact hs _ _ (by omega) (by omega)
theorem wp_descPart {p : Array Nat} {m nrem : Nat} {Q : Nat × Array Nat → Shared → Prop} (hp : PmR n p) (h1 : 1 ≤ m) (h2 : m + 1 ≤ nrem) (hn : nrem ≤ n) (hs : NonI lt p (m + 1)) (h : ∀ m' p', PmR n p' → 1 ≤ m' → m' ≤ nrem → Srt lt p' m' → Q (m', p') s) : (kas_descPart m nrem p).kasWp cmp Q s := by
 unfold kas_descPart
 rw [KasT.kasWp_bind]
 refine wp_desc O hc (nrem - (m + 1)) p (m + 1) 0 hp (by omega) (by omega) hs (by omega) (fun i j a1 a2 a3 a4 => ?_) fun p' m' q' a1 a2 a3 a4 a5 a6 => ?_
 ·have : i = j := by omega
  subst this; exact O.irr _
 ·have hz := a1.size
  show KasT.kasWp cmp (if q' > 0 then kas_tail3 m' nrem (kas_rev p' (m' - (q' + 1)) m') else kas_tail3 m' nrem p') Q s
  by_cases c : q' > 0
  ·rw [if_pos c]
   refine wp_tail O hc (a1.rev _ _) a2 (by omega) hn (fun i j hij hj => ?_) h
   have ej := ixA_rev (p := p') (i := m' - (q' + 1)) (j := m') (by omega) j
   have ei := ixA_rev (p := p') (i := m' - (q' + 1)) (j := m') (by omega) i
   rw [ei, ej]
   by_cases ci : m' - (q' + 1) ≤ i ∧ i < m'
   ·rw [if_pos ci, if_pos (by omega)]
    exact a6 _ _ (by omega) (by omega) (by omega) (by omega)
   ·rw [if_neg ci]
    by_cases cj2 : m' - (q' + 1) ≤ j ∧ j < m'
    ·rw [if_pos cj2]; exact a4 _ _ (by omega) (by omega)
    ·rw [if_neg cj2]; exact a4 _ _ hij (by omega)
  ·rw [if_neg c]
   exact wp_tail O hc a1 a2 (by omega) hn a4 h
theorem wp_count {p : Array Nat} {Q : Nat × Array Nat → Shared → Prop} (hp : PmR n p) (h1 : 1 ≤ n) (h : ∀ m' p', PmR n p' → 1 ≤ m' → m' ≤ n → Srt lt p' m' → Q (m', p') s) : (kas_count n p).kasWp cmp Q s := by
 have hz := hp.size
 unfold kas_count
 rw [KasT.kasWp_bind]
 refine wp_asc O hc hp (n - 1) 1 (Nat.le_refl _) (by omega) (fun i j a b => by
  have : i = j := by omega
  subst this; exact O.irr _) fun m a1 a2 a3 a4 => ?_
 by_cases c1 : (m == n) = true
 ·rw [if_pos c1]
  exact h m p hp a1 (by omega) a3
 ·rw [if_neg c1]
  have hmn : m ≠ n := fun z => c1 (by rw [z]; exact beq_self_eq_true n)
  have e := a4.resolve_left (by omega)
  have le1 := O.asym _ _ e
  by_cases c2 : m > 1
  ·rw [if_pos c2]
   refine hc _ _ _ (hp.lt (show 0 < n by omega)) (hp.lt (show m - 1 < n by omega)) ?_
   show KasT.kasWp cmp (if lt (ixA p 0) (ixA p (m - 1)) = true then .ret (m, p) else kas_descPart m n (kas_rev p 0 m)) Q s
   cases e2 : lt (ixA p 0) (ixA p (m - 1)) with
   | true => exact h m p hp a1 (by omega) a3
   | false =>
    have eqv : ∀ i j, i < m → j < m → lt (ixA p i) (ixA p j) = false := fun i j hi hj => by
     exact O.tr _ (ixA p 0) _ (O.tr _ (ixA p (m - 1)) _ (a3 j (m - 1) (by omega) (by omega)) e2) (a3 0 i (by omega) hi)
    refine wp_descPart O hc (hp.rev 0 m) a1 (by omega) (Nat.le_refl _) (fun i j hij hj => ?_) h
    have ej := ixA_rev (p := p) (i := 0) (j := m) (by omega) j
    have ei := ixA_rev (p := p) (i := 0) (j := m) (by omega) i
    rw [ei, ej]
    by_cases cj : j = m
    ·subst cj
     rw [if_neg (show ¬ (0 ≤ j ∧ j < j) by omega)]
     by_cases ci : i = j
     ·subst ci; rw [if_neg (by omega)]; exact O.irr _
     ·rw [if_pos (by omega)]
      exact O.tr _ _ _ le1 (eqv _ _ (by omega) (by omega))
    ·rw [if_pos (by omega), if_pos (by omega)]
     exact eqv _ _ (by omega) (by omega)
  ·rw [if_neg c2]
   have : m = 1 := by omega
   subst this
   refine wp_descPart O hc hp (by omega) (by omega) (Nat.le_refl _) (fun i j hij hj => ?_) h
   by_cases ci : i = j
   ·subst ci; exact O.irr _
   ·have : i = 0 := by omega
    have : j = 1 := by omega
    subst_vars
    exact le1
theorem wp_place {p : Array Nat} {k : Nat} (hp : PmR n p) (hk : k < n) (hs : Srt lt p k) : ∀ (f l r : Nat) {Q : Nat → Shared → Prop}, l ≤ r → r ≤ k → r - l ≤ f → (∀ i, i < l → lt (ixA p k) (ixA p i) = false) → (∀ i, r ≤ i → i < k → lt (ixA p k) (ixA p i) = true) →
  (∀ l', l' ≤ k → (∀ i, i < l' → lt (ixA p k) (ixA p i) = false) → (∀ i, l' ≤ i → i < k → lt (ixA p k) (ixA p i) = true) → Q l' s) → (kas_place p k f l r).kasWp cmp Q s
 | 0, l, r, Q, h1, h2, h3, h4, h5, h => by
  have : l = r := by omega
  subst this
  exact h l h2 h4 h5
 | f + 1, l, r, Q, h1, h2, h3, h4, h5, h => by
  unfold kas_place
  by_cases c : l ≥ r
  ·rw [if_pos c]
   have : l = r := by omega
   subst this
   exact h l h2 h4 h5
  ·rw [if_neg c]
   have hm : (l + r) / 2 < k := by omega
   have hm1 : l ≤ (l + r) / 2 := by omega
   have hm2 : (l + r) / 2 < r := by omega
   generalize (l + r) / 2 = md at hm hm1 hm2
   refine hc _ _ _ (hp.lt hk) (hp.lt (show md < n by omega)) ?_
   show KasT.kasWp cmp (if lt (ixA p k) (ixA p md) = true then kas_place p k f l md else kas_place p k f (md + 1) r) Q s
   cases e : lt (ixA p k) (ixA p md) with
   | true =>
    refine wp_place hp hk hs f l md hm1 (by omega) (by omega) h4 (fun i a b => ?_) h
    cases e2 : lt (ixA p k) (ixA p i) with
    | true => rfl
    | false => rw [O.tr _ _ _ (hs md i a b) e2] at e; cases e
   | false =>
    refine wp_place hp hk hs f (md + 1) r (by omega) h2 (by omega) (fun i a => ?_) h5 h
    exact O.tr _ _ _ (hs i md (by omega) hm) e
theorem wp_bin : ∀ (f : Nat) (p : Array Nat) (k : Nat) {Q : Array Nat → Shared → Prop}, PmR n p → k + f = n → Srt lt p k → (∀ p', PmR n p' → Srt lt p' n → Q p' s) → (kas_bin f p k).kasWp cmp Q s
 | 0, p, k, Q, hp, hk, hs, h => by
  have : k = n := by omega
  subst this
  exact h p hp hs
 | f + 1, p, k, Q, hp, hk, hs, h => by
  have hz := hp.size
  unfold kas_bin
  rw [KasT.kasWp_bind]
  refine wp_place O hc hp (by omega) hs k 0 k (by omega) (Nat.le_refl _) (by omega) (fun i a => absurd a (Nat.not_lt_zero _)) (fun i a b => by omega) fun l hl h1 h2 => ?_
  refine wp_bin f _ (k + 1) (hp.bub _ _) (by omega) (fun i j hij hj => ?_) h
  have ei := ixA_bub (p := p) (by omega) hl i
  have ej := ixA_bub (p := p) (by omega) hl j
  rw [ei, ej]
  by_cases cj : j = l
  ·subst cj
   rw [if_pos rfl]
   by_cases ci : i = j
   ·subst ci; rw [if_pos rfl]; exact O.irr _
   ·rw [if_neg ci, if_neg (by omega)]
    exact h1 i (by omega)
  ·rw [if_neg cj]
   by_cases cj2 : l < j ∧ j ≤ k
   ·rw [if_pos cj2]
    by_cases ci : i = l
    ·rw [if_pos ci]
     exact O.asym _ _ (h2 (j - 1) (by omega) (by omega))
    ·rw [if_neg ci]
     by_cases ci2 : l < i ∧ i ≤ k
     ·rw [if_pos ci2]; exact hs _ _ (by omega) (by omega)
     ·rw [if_neg ci2]; exact hs _ _ (by omega) (by omega)
   ·rw [if_neg cj2, if_neg (by omega), if_neg (by omega)]
    exact hs _ _ hij (by omega)
theorem wp_sort {Q : Array Nat → Shared → Prop} (h1 : 1 ≤ n) (h : ∀ p', PmR n p' → Srt lt p' n → Q p' s) : (kas_sort n).kasWp cmp Q s := by
 unfold kas_sort
 rw [KasT.kasWp_bind]
 refine wp_count O hc (Array.Perm.refl _) h1 fun m p hp a1 a2 a3 => ?_
 show KasT.kasWp cmp (if m < n then kas_bin (n - max m 1) p (max m 1) else .ret p) Q s
 by_cases c : m < n
 ·rw [if_pos c]
  have e : max m 1 = m := Nat.max_eq_left a1
  rw [e]
  exact wp_bin O hc (n - m) p m hp (by omega) a3 h
 ·rw [if_neg c]
  have : m = n := by omega
  subst this
  exact h p hp a3
end
end L2
namespace L2
open PySem PySem.W PyProof.Rows
section
variable {prog : Program} {w : World} {A : Around} {E : Value → Shared → Prop} {s : Shared}
noncomputable def outT (vs : List Value) (p : Array Nat) : Array Value := List.toArray (p.toList.map fun i => vs.getD i Value.none)
theorem outT_id (vs : List Value) : outT vs (List.range vs.length).toArray = vs.toArray := by
 unfold outT
 congr 1
 refine List.ext_getElem? fun i => ?_
 rw [List.getElem?_map]
 by_cases c : i < vs.length
 ·simp [c]
 ·simp [c]
noncomputable def Asks (prog : Program) (w : World) (A : Around) (s : Shared) (a : Addr) (vs : List Value) (lt : Nat → Nat → Bool) : Prop :=
 ∀ g : Heap, (∀ b o, b ≠ a → s.heap.get? b = some o → g.get? b = some o) → 2 ≤ vs.length → ∃ κ, (∀ (E : Value → Shared → Prop) (R : SortKind → Shared → Prop), R κ { s with heap := g } → wpAny (model prog w) A (keyKind' vs.toArray) R E { s with heap := g }) ∧
  ∀ i j C, i < vs.length → j < vs.length → C (lt i j) { s with heap := g } → kas_ask prog w A κ vs i j C { s with heap := g }
theorem lsortT {a : Addr} {vs : List Value} {e0 : Nat} {lt : Nat → Nat → Bool} {P : PySem.Fin → Shared → Prop} (O : LtOk lt) (hA : s.heap.get? a = some (seqObj "list" vs.toArray e0)) (h64 : vs.length < 64) (hk : Asks prog w A s a vs lt)
  (h : ∀ p : Array Nat, PmR vs.length p → Srt lt p vs.length → P (.done (.ret .none)) { s with heap := sortedHeap s.heap a vs (outT vs p) }) : wpAny (model prog w) A (Builtin.«list.sort» ⟨[.ref a], []⟩) P E s := by
 have aLt : a < s.heap.objs.size := Heap.lt_size hA
 have nA : a ≠ (s.heap.update a (Obj.mapSeq fun _ => (#[] : Array Value))).objs.size := by rw [Heap.size_update]; exact Nat.ne_of_lt aLt
 rw [list_sort_plain]
 refine wpAny_bind (listItems_at hA rfl (wpAny_bind (listUpdate_at hA rfl ?_)))
 obtain ⟨e1, hB⟩ : ∃ k, (s.heap.update a (Obj.mapSeq fun _ => (#[] : Array Value))).get? a = some (seqObj "list" #[] k) := ⟨_, get?_update_seq hA _⟩
 refine wpAny_bind (seqEpoch_at hB rfl (wpAny_bind (wpAny_newTuple (wpAny_bind (wpAny_newList (wpAny_holding ?_))))))
 have hC : (((s.heap.update a (Obj.mapSeq fun _ => (#[] : Array Value))).push (seqObj "tuple" vs.toArray 0)).push (seqObj "list" #[] 0)).get? a = some (seqObj "list" #[] e1) := Heap.get?_push_of_some _ (Heap.get?_push_of_some _ hB)
 have keep : ∀ b o, b ≠ a → s.heap.get? b = some o → (((s.heap.update a (Obj.mapSeq fun _ => (#[] : Array Value))).push (seqObj "tuple" vs.toArray 0)).push (seqObj "list" #[] 0)).get? b = some o := fun b o nb hb =>
  Heap.get?_push_of_some _ (Heap.get?_push_of_some _ (by rw [Heap.get?_update_ne _ _ _ _ nb]; exact hb))
 show wpAny (model prog w) A _ P E { s with heap := (((s.heap.update a (Obj.mapSeq fun _ => (#[] : Array Value))).push (seqObj "tuple" vs.toArray 0)).push (seqObj "list" #[] 0)) }
 dsimp only
 by_cases two : vs.toArray.size < 2
 ·rw [if_pos two, if_pos two]
  refine wpAny_bind (wpAny_pure ?_)
  rw [StateT.run_pure]
  refine wpAny_bind (wpAny_pure ?_)
  dsimp only
  have er : (arrOf (SortSt.mk' general' (vs.toArray.zip vs.toArray) #[] 7 none)).map (·.2) = vs.toArray := by
   show (vs.toArray.zip vs.toArray).map (·.2) = vs.toArray
   apply Array.toList_inj.mp
   rw [Array.toList_map, Array.toList_zip]
   exact List.map_snd_zip (Nat.le_refl _)
  rw [er]
  refine wpAny_bind (seqEpoch_at hC rfl (wpAny_bind (listUpdate_at hC rfl ?_ (hsz2 := by rw [List.size_toArray, sizeLine_eq]; omega))))
  simp only [bne_self_eq_false, Bool.false_eq_true, if_false]
  have := h (List.range vs.length).toArray (Array.Perm.refl _) (fun i j hij hj => by
   rw [List.size_toArray] at two
   have : i = j := by omega
   subst this; exact O.irr _)
  rw [outT_id] at this
  exact wpAny_pure this
 ·rw [if_neg two, if_neg two]
  rw [List.size_toArray] at two
  obtain ⟨κ, kd, ak⟩ := hk _ keep (by omega)
  refine wpAny_bind (kd _ _ ?_)
  refine wpAny_bind (wpAny_mono (kat_run (E := fun _ _ => False) (κ := κ) (ks := vs) (vs := vs) (G := fun p s' => s' = { s with heap := (((s.heap.update a (Obj.mapSeq fun _ => (#[] : Array Value))).push (seqObj "tuple" vs.toArray 0)).push (seqObj "list" #[] 0)) } ∧ PmR vs.length p ∧ Srt lt p vs.length)
   (Q := fun st' s' => s' = { s with heap := (((s.heap.update a (Obj.mapSeq fun _ => (#[] : Array Value))).push (seqObj "tuple" vs.toArray 0)).push (seqObj "list" #[] 0)) } ∧ failedOf st' = none ∧ ∃ p, PmR vs.length p ∧ Srt lt p vs.length ∧ (arrOf st').map (·.2) = outT vs p)
   rfl (by omega) h64 (fun p st' s' _ b1 b2 ⟨b3, b4, b5⟩ => ⟨b3, b2, p, b4, b5, kat_snds rfl b1⟩) (wp_sort O ak (by omega) fun p b1 b2 => ⟨rfl, b1, b2⟩)) ?_ (fun _ _ x => x.elim))
  rintro ⟨⟨⟩, st'⟩ s' ⟨rfl, hf, p, b1, b2, b3⟩
  dsimp only
  rw [hf, b3]
  have lz : (outT vs p).size ≤ sizeLine + 1 := by
   have := b1.size
   unfold outT
   rw [List.size_toArray, List.length_map, Array.length_toList, this, sizeLine_eq]; omega
  refine wpAny_bind (seqEpoch_at hC rfl (wpAny_bind (listUpdate_at hC rfl ?_ (hsz2 := lz))))
  simp only [bne_self_eq_false, Bool.false_eq_true, if_false]
  exact wpAny_pure (h p b1 b2)
theorem sortedT {l : Addr} {vs : List Value} {lt : Nat → Nat → Bool} {Q : Value → Shared → Prop} (O : LtOk lt) (hl : s.heap.IsList l vs.toArray) (h64 : vs.length < 64)
  (hk : ∀ g : Heap, (∀ b o, s.heap.get? b = some o → g.get? b = some o) → Asks prog w A.in1.in1 { s with heap := g } (s.heap.objs.size + 1) vs lt)
  (h : ∀ p : Array Nat, PmR vs.length p → Srt lt p vs.length → Q (.ref (s.heap.objs.size + 1)) { s with heap := sortedAll s.heap vs (outT vs p) }) : wpAny (model prog w) A (call (.builtin "sorted") [.ref l]) Q E s := by
 refine Calls.call_function_entry kind_sorted plain_sorted entry_sorted (args_sorted1 _) ?_
 unfold Builtin.«sorted»
 refine wpAny_bind (m := checkCount "sorted" 1 1 _) (wpAny_pure (wpAny_bind (collect_list hl (wpAny_bind (wpAny_newList ?_)))))
 have zA : ((s.heap.push (seqObj "list" #[] 0)).update s.heap.objs.size (Obj.mapSeq (· ++ vs.toArray))).objs.size = s.heap.objs.size + 1 := by rw [Heap.size_update, size_push']
 have hL : (((s.heap.push (seqObj "list" #[] 0)).update s.heap.objs.size (Obj.mapSeq (· ++ vs.toArray))).push (seqObj "list" vs.toArray 0)).get? (s.heap.objs.size + 1) = some (seqObj "list" vs.toArray 0) := by
  have := Heap.get?_push_size ((s.heap.push (seqObj "list" #[] 0)).update s.heap.objs.size (Obj.mapSeq (· ++ vs.toArray))) (o := seqObj "list" vs.toArray 0) rfl
  rw [zA] at this; exact this
 have keep : ∀ b o, s.heap.get? b = some o → (((s.heap.push (seqObj "list" #[] 0)).update s.heap.objs.size (Obj.mapSeq (· ++ vs.toArray))).push (seqObj "list" vs.toArray 0)).get? b = some o := fun b o hb => by
  have lb := Heap.lt_size hb
  refine Heap.get?_push_of_some _ ?_
  rw [Heap.get?_update_ne _ _ _ _ (Nat.ne_of_lt lb)]
  exact Heap.get?_push_of_some _ hb
 show wpAny _ _ _ _ _ { s with heap := (((s.heap.push (seqObj "list" #[] 0)).update s.heap.objs.size (Obj.mapSeq (· ++ vs.toArray))).push (seqObj "list" vs.toArray 0)) }
 rw [zA]
 refine wpAny_bind (wpAny_holding (wpAny_call_entry slot_list_sort ⟨_, hL, rfl⟩ entry_list_sort (lsortT O hL h64 (hk _ keep) fun p b1 b2 => ⟨_, rfl, wpAny_pure ⟨_, rfl, h p b1 b2⟩⟩) (args_list_sort _)))
end
noncomputable def blex (x y : Int × Int) : Bool := if x.1 = y.1 then (if x.2 = y.2 then false else decide (x.2 < y.2)) else decide (x.1 < y.1)
noncomputable def lexle (x y : Int × Int) : Prop := x.1 < y.1 ∨ (x.1 = y.1 ∧ x.2 ≤ y.2)
theorem blex_le {x y : Int × Int} : blex y x = false ↔ lexle x y := by
 unfold blex lexle
 by_cases c : y.1 = x.1
 ·rw [if_pos c]
  by_cases d : y.2 = x.2
  ·rw [if_pos d]; exact ⟨fun _ => .inr ⟨by omega, by omega⟩, fun _ => rfl⟩
  ·rw [if_neg d, decide_eq_false_iff_not]
   exact ⟨fun z => .inr ⟨by omega, by omega⟩, fun z => by omega⟩
 ·rw [if_neg c, decide_eq_false_iff_not]
  exact ⟨fun z => .inl (by omega), fun z => by omega⟩
theorem blex_lt {x y : Int × Int} : blex x y = true ↔ ¬ lexle y x := by
 rw [← blex_le]
 cases blex x y <;> simp
theorem lexOk (k : Nat → Int × Int) : LtOk fun i j => blex (k i) (k j) where
 irr a := blex_le.mpr (.inr ⟨rfl, Int.le_refl _⟩)
 tr a b c h1 h2 := by
  rw [blex_le] at *
  unfold lexle at *
  omega
 asym a b h := by
  rw [blex_lt] at h
  rw [blex_le]
  unfold lexle at *
  omega
noncomputable def prAt (H : Hp) (r : Addr) : Int × Int := match H r with
 | some (.tup [.int a, .int b]) => (a, b)
 | _ => (0, 0)
theorem prAt_of {H : Hp} {r : Addr} {a b : Int} (h : H r = some (.tup [.int a, .int b])) : prAt H r = (a, b) := by unfold prAt; rw [h]
noncomputable def Pr2 (g : Heap) (r : Addr) (q : Int × Int) : Prop := ∃ o n t t', g.get? r = some o ∧ o.cls = .type "tuple" ∧ o.data = .seq #[.int q.1 t, .int q.2 t'] n
theorem tups_of {g : Heap} {k : Addr → Int × Int} : ∀ {rs : List Addr}, (∀ r ∈ rs, Pr2 g r (k r)) → ∃ fs, KatTups g (rs.map Value.ref) fs ∧ fs.length = rs.length ∧ ∀ v ∈ fs, ∃ i t, v = Value.int i t
 | [], _ => ⟨[], KatTups.nil, rfl, fun v h => nomatch h⟩
 | r :: rs, h => by
  obtain ⟨fs, h1, h2, h3⟩ := tups_of (rs := rs) fun x hx => h x (List.mem_cons_of_mem _ hx)
  obtain ⟨o, n, t, t', a1, a2, a3⟩ := h r (List.mem_cons_self ..)
  refine ⟨.int (k r).1 t :: fs, KatTups.cons a1 a2 a3 rfl h1, by rw [List.length_cons, List.length_cons, h2], fun v hv => ?_⟩
  rcases List.mem_cons.mp hv with rfl | hv
  ·exact ⟨_, _, rfl⟩
  ·exact h3 v hv
section
variable {prog : Program} {w : World} {A : Around} {s : Shared}
theorem lt_pairs {x y : Addr} {p q : Int × Int} {C : Bool → Shared → Prop} (hx : Pr2 s.heap x p) (hy : Pr2 s.heap y q) (h : C (blex p q) s) : wpAny (model prog w) A (keyLt' (tuples' true) (.ref x) (.ref y)) C (fun _ _ => False) s := by
 obtain ⟨ox, n, t1, t2, a1, a2, a3⟩ := hx
 obtain ⟨oy, n', t3, t4, b1, b2, b3⟩ := hy
 refine kat_lt a1 a3 b1 b3 (kat_cons (wpAny_eqBool_int ?_))
 unfold blex at h
 by_cases c : p.1 = q.1
 ·rw [if_pos c] at h
  rw [beq_iff_eq.mpr c]
  refine kat_yes (kat_cons (wpAny_eqBool_int ?_))
  by_cases d : p.2 = q.2
  ·rw [if_pos d] at h
   rw [beq_iff_eq.mpr d]
   exact kat_yes (kat_nil h)
  ·rw [if_neg d] at h
   rw [beq_eq_false_iff_ne.mpr d]
   exact kat_no (kat_one _ _ (wpAny_lt_int h))
 ·rw [if_neg c] at h
  rw [beq_eq_false_iff_ne.mpr c]
  exact kat_no (oneLt_int h)
theorem asks_pairs {a : Addr} {rs : List Addr} {k : Addr → Int × Int} (hne : ∀ r ∈ rs, r ≠ a) (h : ∀ r ∈ rs, Pr2 s.heap r (k r)) : Asks prog w A s a (rs.map Value.ref) fun i j => blex (k (rs.getD i 0)) (k (rs.getD j 0)) := by
 intro g keep two
 have hg : ∀ r ∈ rs, Pr2 g r (k r) := fun r hr => by
  obtain ⟨o, n, t, t', a1, a2, a3⟩ := h r hr
  exact ⟨o, n, t, t', keep r o (hne r hr) a1, a2, a3⟩
 obtain ⟨fs, f1, f2, f3⟩ := tups_of hg
 rw [List.length_map] at two
 have at_ : ∀ i, i < rs.length → (rs.map Value.ref).getD i Value.none = .ref (rs.getD i 0) ∧ rs.getD i 0 ∈ rs := fun i hi => by
  simp [hi]
 refine ⟨tuples' true, fun E R hR => ?_, fun i j C hi hj hC => ?_⟩
 ·refine kat_kind (T := .type "int") (s := { s with heap := g }) f1 (by omega) (fun v hv => ?_) rfl ?_
  ·obtain ⟨i, t, rfl⟩ := f3 v hv
   exact .now
  ·exact hR
 ·rw [List.length_map] at hi hj
  unfold kas_ask
  rw [(at_ i hi).1, (at_ j hj).1]
  exact lt_pairs (s := { s with heap := g }) (hg _ (at_ i hi).2) (hg _ (at_ j hj).2) hC
end
theorem refs_are : ∀ {rs : List Addr} {us : List Value}, Vals (rs.map V.ref) us → us = rs.map Value.ref
 | [], _, .nil => rfl
 | r :: rs, _, .cons p h => by
  cases p
  rw [List.map_cons, refs_are h]
theorem vals_refs : ∀ rs : List Addr, Vals (rs.map V.ref) (rs.map Value.ref)
 | [] => .nil
 | _ :: rs => .cons rfl (vals_refs rs)
theorem call_sortedP {X : Cx} : CallR X (.builtin "sorted") (fun xs H Q => ∃ (p : Addr) (rs : List Addr), xs = [.ref p] ∧ SqL X.K H p (rs.map V.ref) ∧ (∀ r ∈ rs, ∃ a b, H r = some (.tup [.int a, .int b])) ∧ rs.length < 64 ∧
  ∀ (l : Addr) (rs' : List Addr), H l = none → rs'.Perm rs → (rs'.Pairwise fun x y => lexle (prAt H x) (prAt H y)) → Q (.ref l) (upd H l (.lst (rs'.map V.ref)))) := by
 intro pins s σ H xs us Q I r h
 obtain ⟨p, rs, rfl, hq, hpr, h64, q⟩ := h
 obtain ⟨u, rfl, rx⟩ := vals1 r
 cases rx
 obtain ⟨its, rv, pl, hz⟩ := I.list hq
 have ei := refs_are rv
 subst ei
 have hP : ∀ x ∈ rs, Pr2 s.heap x (prAt H x) := fun x hx => by
  obtain ⟨a, b, e⟩ := hpr x hx
  obtain ⟨its, rv, ⟨o, e1, e2, n, e3⟩, _⟩ := I.tuple (SqT.of e)
  rw [prAt_of e]
  cases rv with
  | cons p1 r1 => cases r1 with
   | cons p2 r2 =>
    cases r2
    obtain ⟨t, rfl⟩ := p1
    obtain ⟨t', rfl⟩ := p2
    exact ⟨o, n, t, t', e1, e2, e3⟩
 refine sortedT (lexOk fun i => prAt H (rs.getD i 0)) pl.isList (by rw [List.length_map]; exact h64) (fun g keep => asks_pairs (fun x hx => ?_) fun x hx => ?_) fun pp b1 b2 => ?_
 ·obtain ⟨o, n, t, t', e1, _⟩ := hP x hx
  exact Nat.ne_of_lt (Nat.lt_succ_of_lt (Heap.lt_size e1))
 ·obtain ⟨o, n, t, t', e1, e2, e3⟩ := hP x hx
  exact ⟨o, n, t, t', keep _ _ e1, e2, e3⟩
 rw [List.length_map] at b1 b2
 have eo : outT (rs.map Value.ref) pp = ((pp.toList.map fun i => rs.getD i 0).map Value.ref).toArray := by
  unfold outT
  congr 1
  rw [List.map_map]
  refine List.map_congr_left fun i hi => ?_
  have hi' : i < rs.length := by
   have := (b1.mem_iff).mp (Array.mem_toList_iff.mp hi)
   simpa using this
  simp [hi']
 rw [eo]
 have hpm : (pp.toList.map fun i => rs.getD i 0).Perm rs := by
  have h1 : pp.toList.Perm (List.range rs.length) := by
   have := b1
   unfold PmR at this
   rw [Array.perm_iff_toList_perm] at this
   simpa using this
  have h2 := h1.map fun i => rs.getD i 0
  have h3 : ((List.range rs.length).map fun i => rs.getD i 0) = rs := by
   refine List.ext_getElem? fun i => ?_
   rw [List.getElem?_map]
   by_cases c : i < rs.length
   ·simp [c]
   ·simp [c]
  rw [h3] at h2
  exact h2
 obtain ⟨e, hg⟩ := sortedAll_at s.heap (rs.map Value.ref) ((pp.toList.map fun i => rs.getD i 0).map Value.ref).toArray
 have h64' : 64 ≤ sizeLine := by decide
 have hlen : (pp.toList.map fun i => rs.getD i 0).length ≤ sizeLine := by rw [hpm.length_eq]; omega
 refine ⟨.ref _, _, I.laid (t' := s.toks) (o := .lst ((pp.toList.map fun i => rs.getD i 0).map V.ref)) (fun b o z => sortedAll_old z) (Nat.le_succ _) ⟨by rw [List.length_map]; exact hlen, _, e, vals_refs _, hg⟩, rfl, q _ _ (I.hok.fresh (Nat.le_succ _)) hpm ?_⟩
 rw [List.pairwise_map, List.pairwise_iff_getElem]
 intro i j hi hj hij
 rw [Array.length_toList, b1.size] at hi hj
 have := b2 i j (Nat.le_of_lt hij) hj
 rw [blex_le] at this
 unfold ixA at this
 have hz2 := b1.size
 have g1 : pp.getD i 0 = pp.toList[i] := by simp [Array.getD, hz2, hi]
 have g2 : pp.getD j 0 = pp.toList[j] := by simp [Array.getD, hz2, hj]
 rw [g1, g2] at this
 exact this
theorem comp_listG {K : PySem.W.Frag} {a : Addr} {xs : List V} {caps : List (Option Nat)} {j : Nat} {te : TE} {σ : St} {H1 : Hp} {D : Addr} {Q : VK} (R : Nat → V → Hp → Prop) (ha : SqL K H1 a xs) (hD : H1 D = none) (hn : xs.length ≤ 100000)
  (mono : ∀ i v H H', Same H H' → R i v H → R i v H') (mono2 : ∀ i v H ys o, H D = some (.lst ys) → R i v H → R i v (upd H D o))
  (step : ∀ i x H2 Q', xs[i]? = some x → Same H1 H2 → (∀ v H3, Same H2 H3 → R i v H3 → Q' v H3) → te ((capOf caps σ).set j (some x)) H2 Q')
  (fin : ∀ H2 ys, Same H1 H2 → H2 D = some (.lst ys) → ys.length = xs.length → (∀ k v, ys[k]? = some v → R k v H2) → Q (.ref D) H2) : CompW (Itl K a) caps j tYes te σ H1 D Q := by
 have hz : 100000 < sizeLine := by decide
 refine ⟨fun i m H2 => m = xs.length - i ∧ i ≤ xs.length ∧ Same H1 H2 ∧ ∃ ys, H2 D = some (.lst ys) ∧ ys.length = i ∧ ∀ k v, ys[k]? = some v → R k v H2, ⟨xs.length, by simp, Nat.zero_le _, Same.new hD _, [], upd_same, rfl, fun k v h => by simp at h⟩, ?_⟩
 rintro i m H2 ⟨rfl, hi, sm, ys, hl, hy, hR⟩
 by_cases hlt : i < xs.length
 ·refine .inr ⟨⟨xs, xs[i], sm.seq ha, by simp [hlt]⟩, fun x H3 y => ?_⟩
  obtain ⟨rfl, y⟩ := y
  have hx := y xs (sm.seq ha)
  unfold tYes
  dsimp only
  rw [if_pos rfl]
  refine step i x H3 _ hx sm fun v H4 s4 r4 => ?_
  have hl4 := s4 _ _ hl
  refine ⟨ys, hl4, by omega, xs.length - (i + 1), by omega, rfl, by omega, (sm.trans s4).upd hD hl4 _, ys ++ [v], upd_same, by rw [List.length_append, hy]; rfl, fun k u hk => ?_⟩
  by_cases ck : k < ys.length
  ·rw [List.getElem?_append_left ck] at hk
   exact mono2 _ _ _ ys _ hl4 (mono _ _ _ _ s4 (hR k u hk))
  ·have : k = ys.length := by
    have := (List.getElem?_eq_some_iff.mp hk).1
    rw [List.length_append] at this
    simp only [List.length_cons, List.length_nil] at this
    omega
   subst this
   rw [List.getElem?_append_right (Nat.le_refl _), Nat.sub_self] at hk
   cases hk
   rw [hy]
   exact mono2 _ _ _ ys _ hl4 r4
 ·have e : i = xs.length := by omega
  subst e
  exact .inl ⟨⟨xs, sm.seq ha, Nat.le_refl _⟩, fin H2 ys sm hl hy hR⟩
end L2
namespace L2
open PySem PySem.W PyProof.Rows
noncomputable def Alike (K : PySem.W.Frag) (H : Hp) : Nat → V → V → Prop
 | 0, x, y => x = y ∧ flatV x = true
 | n + 1, x, y => (x = y ∧ flatV x = true) ∨ ∃ p q xs ys, x = .ref p ∧ y = .ref q ∧ ((SqL K H p xs ∧ SqL K H q ys) ∨ (SqT K H p xs ∧ SqT K H q ys)) ∧ xs.length = ys.length ∧ ∀ (j : Nat) (a b : V), xs[j]? = some a → ys[j]? = some b → Alike K H n a b
theorem eqV_refl {x : V} (h : flatV x = true) : eqV x x = true := by
 cases x with
 | bl b => cases b <;> rfl
 | int i => exact beq_self_eq_true i
 | str s => exact beq_self_eq_true s
 | non => rfl
 | _ => exact absurd h (by simp [flatV])
theorem all_true (n : Nat) : (List.range n).all (fun _ => true) = true := List.all_eq_true.mpr fun _ _ => rfl
theorem vals_at {xs : List V} {us : List Value} (r : Vals xs us) {j : Nat} {u : Value} (h : us[j]? = some u) : ∃ x, xs[j]? = some x ∧ RelV x u := by
 have hl := r.length
 have hi : j < xs.length := by rw [hl]; exact (List.getElem?_eq_some_iff.mp h).1
 obtain ⟨u', h', r'⟩ := r.get (i := j) (x := xs[j]) (by simp [hi])
 rw [h] at h'; cases h'
 exact ⟨_, by simp [hi], r'⟩
section
variable {X : Cx}
theorem alike_at {pins : List (Addr × Obj)} {s : Shared} {σ : St} {H : Hp} (I : Inv X pins σ H s) : ∀ (n : Nat) (A : Around) (x y : V) (u v : Value), A.units + 8 * n < cLine → RelV x u → RelV y v → Alike X.K H n x y → SeqAt.EqAt A s u v true := by
 intro n
 induction n with
 | zero =>
  rintro A x y u v hu rx ry ⟨rfl, f⟩
  have := eqAt_V (A := A) (s := s) rx ry f f
  rw [eqV_refl f] at this
  exact this
 | succ n ih =>
  rintro A x y u v hu rx ry (⟨rfl, f⟩ | ⟨p, q, xs, ys, rfl, rfl, hl, hlen, hi⟩)
  ·have := eqAt_V (A := A) (s := s) rx ry f f
   rw [eqV_refl f] at this
   exact this
  cases rx
  cases ry
  by_cases hne : p = q
  ·subst hne; exact SeqAt.EqAt.same _
  refine SeqAt.EqAt.of_refs hne ?_
  rcases hl with ⟨hx, hy⟩ | ⟨hx, hy⟩
  ·obtain ⟨us, r, pl, _⟩ := I.list hx
   obtain ⟨ws, r', pl', _⟩ := I.list hy
   have l1 := r.length
   have l2 := r'.length
   have := SeqAt.RcAt.lists (A := A) (e := fun _ => true) pl.isList pl'.isList (by simp [← l1, ← l2, hlen]) (by omega) (fun j h1 h2 => by
    obtain ⟨a, e1, r1⟩ := vals_at r (j := j) (u := us.toArray[j]) (by rw [List.getElem_toArray]; exact List.getElem?_eq_getElem _)
    obtain ⟨b, e2, r2⟩ := vals_at r' (j := j) (u := ws.toArray[j]) (by rw [List.getElem_toArray]; exact List.getElem?_eq_getElem _)
    exact ih A.in1 a b _ _ (by have : A.in1.units = A.units + 1 := rfl; omega) r1 r2 (hi j a b e1 e2))
   rw [all_true] at this
   exact this
  ·obtain ⟨us, r, pl, _⟩ := I.tuple hx
   obtain ⟨ws, r', pl', _⟩ := I.tuple hy
   have l1 := r.length
   have l2 := r'.length
   have := SeqAt.RcAt.tuples (A := A) (e := fun _ => true) (show s.heap.IsTuple p us.toArray from pl) (show s.heap.IsTuple q ws.toArray from pl') (by omega) (fun j h1 h2 => by
    obtain ⟨a, e1, r1⟩ := vals_at r (j := j) (u := us.toArray[j]) (by rw [List.getElem_toArray]; exact List.getElem?_eq_getElem _)
    obtain ⟨b, e2, r2⟩ := vals_at r' (j := j) (u := ws.toArray[j]) (by rw [List.getElem_toArray]; exact List.getElem?_eq_getElem _)
    exact ih A.in1 a b _ _ (by have : A.in1.units = A.units + 1 := rfl; omega) r1 r2 (hi j a b e1 e2))
   rw [all_true, List.size_toArray, List.size_toArray, ← l1, ← l2, hlen, beq_self_eq_true] at this
   exact this
noncomputable def rNeA (K : PySem.W.Frag) : R2 := fun x y H Q => ∃ p q xs ys, x = .ref p ∧ y = .ref q ∧ ((SqL K H p xs ∧ SqL K H q ys) ∨ (SqT K H p xs ∧ SqT K H q ys)) ∧ xs.length = ys.length ∧ (∀ (j : Nat) (a b : V), xs[j]? = some a → ys[j]? = some b → Alike K H 2 a b) ∧ Q (.bl false) H
theorem op_neA (hu : X.A.units + 64 < cLine) : OpR X (compareOp .NotEq) (rNeA X.K) := by
 intro pins s σ H x y v u Q I rx ry h
 obtain ⟨p, q, xs, ys, rfl, rfl, hl, hlen, hi, k⟩ := h
 cases rx
 cases ry
 rcases hl with ⟨hx, hy⟩ | ⟨hx, hy⟩
 ·obtain ⟨us, r, pl, _⟩ := I.list hx
  obtain ⟨ws, r', pl', _⟩ := I.list hy
  have l1 := r.length
  have l2 := r'.length
  refine SeqAt.RcNeAt.lists (e := fun _ => true) pl.isList pl'.isList (by simp [← l1, ← l2, hlen]) (by omega) (fun j h1 h2 => ?_) _ _ _ _ ⟨.bl _, H, I, rfl, ?_⟩
  ·obtain ⟨a, e1, r1⟩ := vals_at r (j := j) (u := us.toArray[j]) (by rw [List.getElem_toArray]; exact List.getElem?_eq_getElem _)
   obtain ⟨b, e2, r2⟩ := vals_at r' (j := j) (u := ws.toArray[j]) (by rw [List.getElem_toArray]; exact List.getElem?_eq_getElem _)
   exact alike_at I 2 X.A.in1 a b _ _ (by have : X.A.in1.units = X.A.units + 1 := rfl; omega) r1 r2 (hi j a b e1 e2)
  ·rw [all_true]; exact k
 ·obtain ⟨us, r, pl, _⟩ := I.tuple hx
  obtain ⟨ws, r', pl', _⟩ := I.tuple hy
  have l1 := r.length
  have l2 := r'.length
  refine SeqAt.RcNeAt.tuples (e := fun _ => true) (show s.heap.IsTuple p us.toArray from pl) (show s.heap.IsTuple q ws.toArray from pl') (by omega) (fun j h1 h2 => ?_) _ _ _ _ ⟨.bl _, H, I, rfl, ?_⟩
  ·obtain ⟨a, e1, r1⟩ := vals_at r (j := j) (u := us.toArray[j]) (by rw [List.getElem_toArray]; exact List.getElem?_eq_getElem _)
   obtain ⟨b, e2, r2⟩ := vals_at r' (j := j) (u := ws.toArray[j]) (by rw [List.getElem_toArray]; exact List.getElem?_eq_getElem _)
   exact alike_at I 2 X.A.in1 a b _ _ (by have : X.A.in1.units = X.A.units + 1 := rfl; omega) r1 r2 (hi j a b e1 e2)
  ·rw [all_true, List.size_toArray, List.size_toArray, ← l1, ← l2, hlen, beq_self_eq_true]; exact k
end
end L2
namespace L2
open PySem PySem.Spec PyProof.Rows
section
variable {prog : Program} {w : World} {A : Around} {E : Value → Shared → Prop} {s : Shared}
end
section
variable {X : Cx} {pos : Pos}
noncomputable def gTupL (K : PySem.W.Frag) (n : Nat) (t : TGs) : TG := fun v σ H Q => ∃ a xs, v = .ref a ∧ SqL K H a xs ∧ xs.length = n ∧ t xs σ H Q
noncomputable def rIsnotB : R2 := fun x y H Q => ∃ a b, x = .bl a ∧ y = .bl b ∧ Q (.bl (a != b)) H
noncomputable def rRemove : V → List V → Hp → VK → Prop := fun x vs H Q => ∃ (l : Addr) (ks : List Int) (k : Int), x = .ref l ∧ vs = [.int k] ∧ H l = some (.lst (ks.map V.int)) ∧ k ∈ ks ∧ Q .non (upd H l (.lst ((ks.erase k).map V.int)))
theorem isInts : ∀ {ks : List Int} {its : List Value}, Vals (ks.map V.int) its → its.length = ks.length ∧ ∀ (i : Nat) (h : i < ks.length) (h' : i < its.length), ∃ t, its[i] = .int ks[i] t
 | [], _, h => by cases h; exact ⟨rfl, fun i h => nomatch h⟩
 | k :: ks, _, h => by
  cases h with
  | cons r rr =>
   obtain ⟨t, rfl⟩ := r
   obtain ⟨e, g⟩ := isInts rr
   refine ⟨by simp [e], fun i h h' => ?_⟩
   cases i with
   | zero => exact ⟨t, rfl⟩
   | succ i => exact g i (by simpa using h) (by simpa using h')
theorem map_eraseI : ∀ (ks : List Int) (j : Nat), (ks.map V.int).eraseIdx j = (ks.eraseIdx j).map V.int
 | [], j => rfl
 | k :: ks, 0 => rfl
 | k :: ks, j + 1 => by simp [map_eraseI ks j]
noncomputable def isK (k : Int) : Value → Bool
 | .int a _ => a == k
 | _ => false
theorem mt_remove : MtM X "list.remove" rRemove := by
 intro pins s σ H x vs v us Q I rx rv h
 obtain ⟨l, ks, k, rfl, rfl, hH, hk, q⟩ := h
 cases rx
 obtain ⟨u, rfl, ru⟩ := rv.one
 obtain ⟨t, rfl⟩ := ru
 obtain ⟨z, its, n, r, hl, e⟩ := I.lstM hH
 obtain ⟨el, g⟩ := isInts r
 have hj : ks.idxOf k < ks.length := List.idxOf_lt_length_of_mem hk
 have hj' : ks.idxOf k < its.toArray.size := by simp [el, hj]
 rw [List.erase_eq_eraseIdx_of_idxOf rfl, ← map_eraseI] at q
 refine call_meets F.slot_list_remove ⟨_, e, rfl⟩ F.entry_list_remove (F.args_list_remove_2 _ _)
  (MeetsSeq.list_remove l its.toArray n (.int k t) (isK k) ?_ (ks.idxOf k) hj' ?_ ?_ (by rw [List.size_toArray, ← hl]; exact z)) ⟨e, ?_⟩
 ·intro y hy
  obtain ⟨i, hi, rfl⟩ := List.getElem_of_mem (List.mem_toArray.mp hy)
  obtain ⟨t', e'⟩ := g i (by omega) hi
  rw [e']
  exact MeetsSeq.EqGives.int _ _ _ _
 ·obtain ⟨t', e'⟩ := g _ hj (by omega)
  rw [List.getElem_toArray, e']
  simp [isK]
 ·intro m hm hlt
  obtain ⟨t', e'⟩ := g m (by omega) (by omega)
  rw [List.getElem_toArray, e']
  simp only [isK, beq_eq_false_iff_ne, ne_eq]
  intro z
  have := List.not_of_lt_findIdx (p := fun y => y == k) (xs := ks) (i := m) hlt
  simp [z] at this
 ·refine ⟨.non, _, I.lset (its' := its.eraseIdx (ks.idxOf k)) hH e ?_ (r.eraseIdx _) ?_, rfl, q⟩
  ·show its.toArray.eraseIdxIfInBounds _ = _
   rw [List.eraseIdxIfInBounds_toArray]
  ·have := len_erase (ks.map V.int) (ks.idxOf k)
   omega
variable {o e : Expr} {es : List Expr} {to : TE} {t : TA} {name : Str} {apos cpos : Pos} {T id : String} {r : V → List V → Hp → VK → Prop}
end
end L2
namespace SC
open PySem L2 PyProof.Rows
inductive CN where
 | StrewError | BadRule | BadKey | BadSize | Full | TooMany | Row | Growing
noncomputable def wholeV (v : V) (lo hi : Int) : Bool := match v with | .int i => decide (lo ≤ i) && decide (i ≤ hi) | _ => false
theorem wholeV_int {i lo hi : Int} (h1 : lo ≤ i) (h2 : i ≤ hi) : wholeV (.int i) lo hi = true := by simp [wholeV, h1, h2]
noncomputable def spWhole : Sp := fun vs H Q _ => ∃ x lo hi T, vs = [x, .int lo, .int hi] ∧ Kn H x T ∧ Q (.bl (wholeV x lo hi)) H
noncomputable def spCheckKey (cK : Addr) : Sp := fun vs H Q E => ∃ v T, vs = [v] ∧ Kn H v T ∧ if wholeV v 0 999999 = true then Q .non H else E (.ref cK) none H
noncomputable def spCheckSize (cZ : Addr) : Sp := fun vs H Q E => ∃ v T, vs = [v] ∧ Kn H v T ∧ if wholeV v 2 64 = true then Q .non H else E (.ref cZ) none H
noncomputable def spCheckCount (cZ : Addr) : Sp := fun vs H Q E => ∃ v lo hi T, vs = [v, .int lo, .int hi] ∧ Kn H v T ∧ if wholeV v lo hi = true then Q .non H else E (.ref cZ) none H
noncomputable def spPow : Sp := fun vs H Q _ => ∃ b e : Int, vs = [.int b, .int e] ∧ (0 ≤ b ∧ b < 2 ^ 64) ∧ (0 ≤ e ∧ e ≤ 1000) ∧ Q (.int (b ^ e.toNat)) H
theorem divC {i j : Int} (h : 0 < j) (h2 : j ≤ 2 ^ 64) : CDivA i j := ⟨h, Int.lt_of_le_of_lt h2 (by decide)⟩
theorem mulC {i j : Int} (h1 : 0 ≤ j) (h2 : j < 2 ^ 64) : CMulA i j := .inl (.inr ⟨by omega, h2⟩)
theorem mulD {i j : Int} (h1 : 0 ≤ i) (h2 : i < 2 ^ 64) : CMulA i j := .inl (.inl ⟨by omega, h2⟩)
theorem posJ {j : Int} (h : 0 < j) : 0 < j := h
theorem bigM (x : Int) : (x % 340282366920938463463374607431768211507).natAbs < 2 ^ 1000 := by
 have h0 := Int.emod_nonneg x (b := 340282366920938463463374607431768211507) (by decide)
 have h1 := Int.emod_lt_of_pos x (b := 340282366920938463463374607431768211507) (by decide)
 generalize x % 340282366920938463463374607431768211507 = m at h0 h1
 exact Nat.lt_of_lt_of_le (show m.natAbs < 340282366920938463463374607431768211507 by omega) (by decide)
theorem mulM (x : Int) : CMulA (x % 340282366920938463463374607431768211507) (x % 340282366920938463463374607431768211507) := .inr ⟨bigM x, bigM x⟩
theorem atI_mem {xs : List V} {i : Int} (h0 : 0 ≤ i) (h1 : i < xs.length) : ∃ v, atI xs i = some v ∧ v ∈ xs := by
 have h2 : i.toNat < xs.length := by omega
 have e : ((i.toNat : Nat) : Int) = i := by omega
 refine ⟨xs[i.toNat], ?_, List.getElem_mem h2⟩
 have := atI_nat (xs := xs) (j := i.toNat) (v := xs[i.toNat]) (by simp [h2])
 rw [e] at this
 exact this
theorem pick {xs : List V} (m n : Int) (h : n = xs.length) (hn : 0 < n) : ∃ v, atI xs (m % n) = some v ∧ v ∈ xs :=
 atI_mem (Int.emod_nonneg _ (by omega)) (by rw [← h]; exact Int.emod_lt_of_pos _ hn)
noncomputable def spCell (K : PySem.W.Frag) : Sp := fun vs H Q _ => ∃ p ns k, vs = [.ref p, .int k] ∧ SqL K H p (List.map V.int ns) ∧ ns.length ≤ 63 ∧ (0 ≤ k ∧ k < 64) ∧ ∀ c H', Same H H' → Q (.int c) H'
noncomputable def spDrawn : Sp := fun vs H Q _ => ∃ c k, vs = [.int c, .int k] ∧ ∀ m, 0 ≤ m → m < 2 ^ 128 → Q (.int m) H
theorem flat_ints (ns : List Int) : (ns.map V.int).all flatV = true := by
 rw [List.all_map]
 exact List.all_eq_true.mpr fun _ _ => rfl
theorem seq_cut {t u : TS} {D : Ends} {σ : L2.St} {H : Hp} (Post : L2.St → Hp → Prop) (h1 : ∀ U : L2.St → Hp → Prop, (∀ σ' H', Post σ' H' → U σ' H') → t { D with nx := U } σ H) (h2 : ∀ σ' H', Post σ' H' → u D σ' H') : tSeq t u D σ H := h1 _ h2
noncomputable def spLaw (K : PySem.W.Frag) : Sp := fun vs H Q _ => ∃ (a : Addr) (ns : List Int), vs = [.ref a] ∧ SqL K H a (ns.map V.int) ∧ ns.length ≤ 63 ∧ ∀ H', Q (.bl true) H'
theorem bt_sorted : bootBuiltins "sorted" = some (.builtin "sorted") := by decide +kernel
noncomputable def PairAt (H : Hp) (v : V) (a : Nat × Nat) : Prop := ∃ p, v = .ref p ∧ H p = some (.tup [.int a.1, .int a.2])
theorem ln1 {P : List Value → Prop} (h : ∀ a0, P [a0]) : ∀ us : List Value, us.length = 1 → P us
 | [a0], _ => h a0
theorem ln2 {P : List Value → Prop} (h : ∀ a0 a1, P [a0, a1]) : ∀ us : List Value, us.length = 2 → P us
 | [a0, a1], _ => h a0 a1
theorem ln3 {P : List Value → Prop} (h : ∀ a0 a1 a2, P [a0, a1, a2]) : ∀ us : List Value, us.length = 3 → P us
 | [a0, a1, a2], _ => h a0 a1 a2
theorem ln4 {P : List Value → Prop} (h : ∀ a0 a1 a2 a3, P [a0, a1, a2, a3]) : ∀ us : List Value, us.length = 4 → P us
 | [a0, a1, a2, a3], _ => h a0 a1 a2 a3
theorem ln5 {P : List Value → Prop} (h : ∀ a0 a1 a2 a3 a4, P [a0, a1, a2, a3, a4]) : ∀ us : List Value, us.length = 5 → P us
 | [a0, a1, a2, a3, a4], _ => h a0 a1 a2 a3 a4
end SC
namespace SC
open PySem L2 PyProof.Rows
structure Wd (K : PySem.W.Frag) (cl : CN → Addr) (C : Addr) (j : Nat) : Prop where
 k : ExcK K C
 e : PySem.W.exmOne K (.ref C) (.ref (cl .StrewError)) = some true
 f0 : PySem.W.kitOne K (.ref C) (.ref (cl .BadRule)) = some (j == 0)
 f1 : PySem.W.kitOne K (.ref C) (.ref (cl .BadKey)) = some (j == 1)
 f2 : PySem.W.kitOne K (.ref C) (.ref (cl .BadSize)) = some (j == 2)
 f3 : PySem.W.kitOne K (.ref C) (.ref (cl .Full)) = some (j == 3)
 f4 : PySem.W.kitOne K (.ref C) (.ref (cl .TooMany)) = some (j == 4)
 v : PySem.W.kitOne K (.ref C) (.type "ValueError") = some true
theorem markR {k : Nat} {A : Around} {x : Option Value} (r : Room k A) : Room k (A.mark x) := ⟨r.dp, r.un⟩
theorem ixN_nat {n j : Nat} (h : j < n) : ixN n (j : Int) = some j := by
 unfold ixN
 rw [if_pos (by omega), if_pos (by omega), Int.toNat_natCast]
noncomputable def nm (j : Nat) : Str := ["BadRule", "BadKey", "BadSize", "Full", "TooMany"].getD j ""
theorem kc {K : PySem.W.Frag} {C c : Addr} {b : Bool} (h : PySem.W.kitOne K (.ref C) (.ref c) = some b) : ∀ u, RelV (.ref c) u → PySem.W.kitOne K (.ref C) u = some b := fun u e => by cases e; exact h
theorem kty {K : PySem.W.Frag} {C : Addr} {n : String} {b : Bool} (h : PySem.W.kitOne K (.ref C) (.type n) = some b) : ∀ u, RelV (.ty n) u → PySem.W.kitOne K (.ref C) u = some b := fun u e => by cases e; exact h
noncomputable def flagI : V → V
 | .bl b => .int (if b then 1 else 0)
 | _ => .non
noncomputable def spWord (K : PySem.W.Frag) (cl : CN → Addr) : Sp := fun vs H Q _ => ∃ a o C j, vs = [.ref a] ∧ H a = some (frzE o) ∧ ExcObj C o ∧ Wd K cl C j ∧ j < 5 ∧ ∀ H', Same H H' → Q (.str (nm j)) H'
theorem j5 {j : Nat} (h : j < 5) : j = 0 ∨ j = 1 ∨ j = 2 ∨ j = 3 ∨ j = 4 := by omega
theorem iteY {c A B : Prop} [Decidable c] (hc : c) (h : A) : if c then A else B := by rw [if_pos hc]; exact h
theorem iteN {c A B : Prop} [Decidable c] (hc : ¬ c) (h : B) : if c then A else B := by rw [if_neg hc]; exact h
end SC
namespace SC
open PySem L2 PyProof.Rows
noncomputable def spNext : Sp := fun vs H Q _ => ∃ p s : Int, vs = [.int p, .int s] ∧ 0 < s ∧ Q (.int ((p + 1) % s)) H
noncomputable def spWayOn : Sp := fun vs H Q _ => ∃ a p s : Int, vs = [.int a, .int p, .int s] ∧ 0 < s ∧ Q (.int ((p - a) % s)) H
noncomputable def nats (l : List Nat) : List V := l.map fun (x : Nat) => V.int (x : Int)
theorem nats_at {l : List Nat} {i : Nat} {x : V} (h : (nats l)[i]? = some x) : ∃ n, l[i]? = some n ∧ x = .int (n : Int) := by
 unfold nats at h
 rw [List.getElem?_map] at h
 obtain ⟨n, hn, rfl⟩ := Option.map_eq_some_iff.mp h
 exact ⟨n, hn, rfl⟩
theorem nats_len (l : List Nat) : (nats l).length = l.length := List.length_map ..
noncomputable def dk (acc : List Nat) : List (Key × V) := acc.map fun (p : Nat) => (Sum.inl (p : Int), V.bl true)
end SC
namespace SC
open PySem L2 PyProof.Rows
noncomputable def Pairs (ps : List (V × V)) (vs : List V) (H : Hp) : Prop := vs.length = ps.length ∧ ∀ (i : Nat) p, ps[i]? = some p → ∃ t, vs[i]? = some (.ref t) ∧ H t = some (.tup [p.1, p.2])
inductive PR (σ : L2.St) : TA → List (V × V) → Prop where
 | nil : PR σ tNil []
 | cons {ta tb : TE} {tr : TA} {a b : V} {ps : List (V × V)} (ha : ∀ H Q, Q a H → ta σ H Q) (hb : ∀ H Q, Q b H → tb σ H Q) (r : PR σ tr ps) : PR σ (tCons (tTup (tCons ta (tCons tb tNil))) tr) ((a, b) :: ps)
theorem pickI (m : Int) {n : Nat} (hn : 0 < n) : ∃ i : Nat, i < n ∧ m % (n : Int) = (i : Int) := by
 have h0 := Int.emod_nonneg m (b := (n : Int)) (by omega)
 have h1 := Int.emod_lt_of_pos m (b := (n : Int)) (by omega)
 exact ⟨(m % (n : Int)).toNat, by omega, by omega⟩
end SC
namespace SC
open PySem L2 PyProof.Rows
end SC
namespace SC
open PySem L2 PyProof.Rows
end SC
namespace SC
open PySem L2 PyProof.Rows
theorem sq4 {T1 T2 T3 T4 : TS} {D : Ends} {σ : L2.St} {H : Hp} (h : ∀ (t1 t2 t3 t4 : TS) (D' : Ends), t1 = T1 → t2 = T2 → t3 = T3 → t4 = T4 → D' = D → (tSeq t1 (tSeq t2 (tSeq t3 t4))) D' σ H) : (tSeq T1 (tSeq T2 (tSeq T3 T4))) D σ H := h _ _ _ _ _ rfl rfl rfl rfl rfl
theorem sq5 {T1 T2 T3 T4 T5 : TS} {D : Ends} {σ : L2.St} {H : Hp} (h : ∀ (t1 t2 t3 t4 t5 : TS) (D' : Ends), t1 = T1 → t2 = T2 → t3 = T3 → t4 = T4 → t5 = T5 → D' = D → (tSeq t1 (tSeq t2 (tSeq t3 (tSeq t4 t5)))) D' σ H) : (tSeq T1 (tSeq T2 (tSeq T3 (tSeq T4 T5)))) D σ H := h _ _ _ _ _ _ rfl rfl rfl rfl rfl rfl
theorem sq6 {T1 T2 T3 T4 T5 T6 : TS} {D : Ends} {σ : L2.St} {H : Hp} (h : ∀ (t1 t2 t3 t4 t5 t6 : TS) (D' : Ends), t1 = T1 → t2 = T2 → t3 = T3 → t4 = T4 → t5 = T5 → t6 = T6 → D' = D → (tSeq t1 (tSeq t2 (tSeq t3 (tSeq t4 (tSeq t5 t6))))) D' σ H) : (tSeq T1 (tSeq T2 (tSeq T3 (tSeq T4 (tSeq T5 T6))))) D σ H := h _ _ _ _ _ _ _ rfl rfl rfl rfl rfl rfl rfl
theorem sq9 {T1 T2 T3 T4 T5 T6 T7 T8 T9 : TS} {D : Ends} {σ : L2.St} {H : Hp} (h : ∀ (t1 t2 t3 t4 t5 t6 t7 t8 t9 : TS) (D' : Ends), t1 = T1 → t2 = T2 → t3 = T3 → t4 = T4 → t5 = T5 → t6 = T6 → t7 = T7 → t8 = T8 → t9 = T9 → D' = D → (tSeq t1 (tSeq t2 (tSeq t3 (tSeq t4 (tSeq t5 (tSeq t6 (tSeq t7 (tSeq t8 t9)))))))) D' σ H) : (tSeq T1 (tSeq T2 (tSeq T3 (tSeq T4 (tSeq T5 (tSeq T6 (tSeq T7 (tSeq T8 T9)))))))) D σ H := h _ _ _ _ _ _ _ _ _ _ rfl rfl rfl rfl rfl rfl rfl rfl rfl rfl
theorem sq10 {T1 T2 T3 T4 T5 T6 T7 T8 T9 T10 : TS} {D : Ends} {σ : L2.St} {H : Hp} (h : ∀ (t1 t2 t3 t4 t5 t6 t7 t8 t9 t10 : TS) (D' : Ends), t1 = T1 → t2 = T2 → t3 = T3 → t4 = T4 → t5 = T5 → t6 = T6 → t7 = T7 → t8 = T8 → t9 = T9 → t10 = T10 → D' = D → (tSeq t1 (tSeq t2 (tSeq t3 (tSeq t4 (tSeq t5 (tSeq t6 (tSeq t7 (tSeq t8 (tSeq t9 t10))))))))) D' σ H) : (tSeq T1 (tSeq T2 (tSeq T3 (tSeq T4 (tSeq T5 (tSeq T6 (tSeq T7 (tSeq T8 (tSeq T9 T10))))))))) D σ H := h _ _ _ _ _ _ _ _ _ _ _ rfl rfl rfl rfl rfl rfl rfl rfl rfl rfl rfl
end SC
namespace SC
open PySem L2 PyProof.Rows
theorem tf {b : Bool} {α : Prop} (h : b = true) (h' : b = false) : α := by rw [h] at h'; cases h'
theorem mul2 (i : Int) : CMulA i 2 := .inl (.inr ⟨by decide, by decide⟩)
noncomputable def tupV (H : Hp) (v : V) : Option (List V) := match v with
 | .ref a => match H a with
  | some (.tup xs) => some xs
  | _ => none
 | _ => none
noncomputable def isTimesV : List V → Bool
 | [_, a, b] => wholeV a 0 999999 && wholeV b 0 999999
 | _ => false
noncomputable def isHighV : List V → Bool
 | [_, a, b] => wholeV a 0 999999 && wholeV b 1 30
 | _ => false
noncomputable def isToldV (H : Hp) : List V → Bool
 | [_, t] => match tupV H t with
  | some ns => (decide (1 ≤ ns.length) && decide (ns.length ≤ 64)) && ns.all fun z => wholeV z 0 999
  | none => false
 | _ => false
noncomputable def isRuleV (H : Hp) (v : V) : Bool := match tupV H v with
 | some (.str s :: r) => if s = "times" then isTimesV (.str s :: r) else if s = "high" then isHighV (.str s :: r) else decide (s = "told") && isToldV H (.str s :: r)
 | _ => false
structure Plain (H : Hp) (v : V) : Prop where
 kn : ∃ T, Kn H v T
 its : ∀ xs, tupV H v = some xs → ∀ y ∈ xs, (∃ T, Kn H y T) ∧ ∀ ys, tupV H y = some ys → ys.length ≤ 1000 ∧ ∀ z ∈ ys, ∃ T, Kn H z T
 few : ∀ xs, tupV H v = some xs → xs.length ≤ 1000
noncomputable def spTimes : Sp := fun vs H Q _ => ∃ p xs, vs = [.ref p] ∧ H p = some (.tup xs) ∧ (∀ y ∈ xs, ∃ T, Kn H y T) ∧ Q (.bl (isTimesV xs)) H
noncomputable def spHigh : Sp := fun vs H Q _ => ∃ p xs, vs = [.ref p] ∧ H p = some (.tup xs) ∧ (∀ y ∈ xs, ∃ T, Kn H y T) ∧ Q (.bl (isHighV xs)) H
theorem len3 {xs : List V} (h : xs.length = 3) : ∃ a b c, xs = [a, b, c] := match xs, h with | [a, b, c], _ => ⟨a, b, c, rfl⟩
theorem isTimes_no {xs : List V} (h : xs.length ≠ 3) : isTimesV xs = false := by
 match xs, h with
 | [], _ => rfl
 | [_], _ => rfl
 | [_, _], _ => rfl
 | [_, _, _], h => exact absurd rfl h
 | _ :: _ :: _ :: _ :: _, _ => rfl
theorem isHigh_no {xs : List V} (h : xs.length ≠ 3) : isHighV xs = false := by
 match xs, h with
 | [], _ => rfl
 | [_], _ => rfl
 | [_, _], _ => rfl
 | [_, _, _], h => exact absurd rfl h
 | _ :: _ :: _ :: _ :: _, _ => rfl
noncomputable def spTold : Sp := fun vs H Q _ => ∃ p xs, vs = [.ref p] ∧ H p = some (.tup xs) ∧ (∀ y ∈ xs, (∃ T, Kn H y T) ∧ ∀ ys, tupV H y = some ys → ys.length ≤ 1000 ∧ ∀ z ∈ ys, ∃ T, Kn H z T) ∧ ∀ H', Same H H' → Q (.bl (isToldV H xs)) H'
noncomputable def spIsRule : Sp := fun vs H Q _ => ∃ v, vs = [v] ∧ Plain H v ∧ ∀ H', Same H H' → Q (.bl (isRuleV H v)) H'
theorem len2 {xs : List V} (h : xs.length = 2) : ∃ a b, xs = [a, b] := match xs, h with | [a, b], _ => ⟨a, b, rfl⟩
theorem isTold_no {H : Hp} {xs : List V} (h : xs.length ≠ 2) : isToldV H xs = false := by
 match xs, h with
 | [], _ => rfl
 | [_], _ => rfl
 | [_, _], h => exact absurd rfl h
 | _ :: _ :: _ :: _, _ => rfl
theorem tupV_of {H : Hp} {v : V} {T : Ty6} (h : Kn H v T) (ht : T.isT = true) : ∃ a xs, v = .ref a ∧ H a = some (.tup xs) ∧ tupV H v = some xs := by
 cases h with
 | tup e => exact ⟨_, _, rfl, e, by simp [tupV, e]⟩
 | _ => cases ht
theorem tupV_no {H : Hp} {v : V} {T : Ty6} (h : Kn H v T) (ht : T.isT = false) : tupV H v = none := by
 cases h with
 | tup e => cases ht
 | lst e => simp [tupV, e]
 | _ => rfl
inductive Rl where
 | times (a b : Int)
 | high (a b : Int)
 | told (ns : List Int)
noncomputable def RlAt (H : Hp) (v : V) : Rl → Prop
 | .times a b => ∃ p, v = .ref p ∧ H p = some (.tup [.str "times", .int a, .int b])
 | .high a b => ∃ p, v = .ref p ∧ H p = some (.tup [.str "high", .int a, .int b])
 | .told ns => ∃ p q, v = .ref p ∧ H p = some (.tup [.str "told", .ref q]) ∧ H q = some (.tup (ns.map V.int))
noncomputable def Rl.Ok : Rl → Prop
 | .times a b => (0 ≤ a ∧ a ≤ 999999) ∧ 0 ≤ b ∧ b ≤ 999999
 | .high a b => (0 ≤ a ∧ a ≤ 999999) ∧ 1 ≤ b ∧ b ≤ 30
 | .told ns => (1 ≤ ns.length ∧ ns.length ≤ 64) ∧ ∀ n ∈ ns, 0 ≤ n ∧ n ≤ 999
noncomputable def Rl.home (r : Rl) (k z : Int) : Int := match r with
 | .times a b => (a * k + b) % z
 | .high a b => (a * k) % 2 ^ b.toNat * z / 2 ^ b.toNat
 | .told ns => ns.getD (k % ns.length).toNat 0 % z
theorem RlAt.same {H H' : Hp} {v : V} {r : Rl} (s : Same H H') (h : RlAt H v r) : RlAt H' v r := by
 cases r with
 | times a b => obtain ⟨p, e, hp⟩ := h; exact ⟨p, e, s _ _ hp⟩
 | high a b => obtain ⟨p, e, hp⟩ := h; exact ⟨p, e, s _ _ hp⟩
 | told ns => obtain ⟨p, q, e, hp, hq⟩ := h; exact ⟨p, q, e, s _ _ hp, s _ _ hq⟩
theorem tupV_at {H : Hp} {p : Addr} {xs : List V} (h : H p = some (.tup xs)) : tupV H (.ref p) = some xs := by simp [tupV, h]
theorem RlAt.rule {H : Hp} {v : V} {r : Rl} (h : RlAt H v r) (ok : r.Ok) : isRuleV H v = true := by
 cases r with
 | times a b =>
  obtain ⟨p, rfl, hp⟩ := h
  obtain ⟨⟨a1, a2⟩, b1, b2⟩ := ok
  simp only [isRuleV, tupV_at hp]
  rw [if_pos trivial]
  simp only [isTimesV, wholeV_int a1 a2, wholeV_int b1 b2, Bool.and_self]
 | high a b =>
  obtain ⟨p, rfl, hp⟩ := h
  obtain ⟨⟨a1, a2⟩, b1, b2⟩ := ok
  simp only [isRuleV, tupV_at hp]
  rw [if_neg (by decide +kernel), if_pos trivial]
  simp only [isHighV, wholeV_int a1 a2, wholeV_int b1 b2, Bool.and_self]
 | told ns =>
  obtain ⟨p, q, rfl, hp, hq⟩ := h
  obtain ⟨⟨a1, a2⟩, b1⟩ := ok
  simp only [isRuleV, tupV_at hp]
  rw [if_neg (by decide +kernel), if_neg (by decide +kernel)]
  simp only [isToldV, tupV_at hq]
  rw [List.length_map, decide_eq_true a1, decide_eq_true a2]
  simp only [decide_true, Bool.true_and, List.all_map, List.all_eq_true]
  intro n hn
  exact wholeV_int (b1 n hn).1 (b1 n hn).2
theorem RlAt.plain {H : Hp} {v : V} {r : Rl} (h : RlAt H v r) (ok : r.Ok) : Plain H v := by
 cases r with
 | times a b =>
  obtain ⟨p, rfl, hp⟩ := h
  refine ⟨⟨_, .tup hp⟩, fun xs e y hy => ?_, fun xs e => ?_⟩
  ·rw [tupV_at hp] at e; cases e
   simp only [List.mem_cons, List.not_mem_nil, or_false] at hy
   rcases hy with rfl | rfl | rfl
   ·exact ⟨⟨_, .str _⟩, fun ys e => by simp [tupV] at e⟩
   ·exact ⟨⟨_, .int _⟩, fun ys e => by simp [tupV] at e⟩
   ·exact ⟨⟨_, .int _⟩, fun ys e => by simp [tupV] at e⟩
  ·rw [tupV_at hp] at e; cases e; simp
 | high a b =>
  obtain ⟨p, rfl, hp⟩ := h
  refine ⟨⟨_, .tup hp⟩, fun xs e y hy => ?_, fun xs e => ?_⟩
  ·rw [tupV_at hp] at e; cases e
   simp only [List.mem_cons, List.not_mem_nil, or_false] at hy
   rcases hy with rfl | rfl | rfl
   ·exact ⟨⟨_, .str _⟩, fun ys e => by simp [tupV] at e⟩
   ·exact ⟨⟨_, .int _⟩, fun ys e => by simp [tupV] at e⟩
   ·exact ⟨⟨_, .int _⟩, fun ys e => by simp [tupV] at e⟩
  ·rw [tupV_at hp] at e; cases e; simp
 | told ns =>
  obtain ⟨p, q, rfl, hp, hq⟩ := h
  obtain ⟨⟨a1, a2⟩, b1⟩ := ok
  refine ⟨⟨_, .tup hp⟩, fun xs e y hy => ?_, fun xs e => ?_⟩
  ·rw [tupV_at hp] at e; cases e
   simp only [List.mem_cons, List.not_mem_nil, or_false] at hy
   rcases hy with rfl | rfl
   ·exact ⟨⟨_, .str _⟩, fun ys e => by simp [tupV] at e⟩
   ·refine ⟨⟨_, .tup hq⟩, fun ys e => ?_⟩
    rw [tupV_at hq] at e; cases e
    refine ⟨by rw [List.length_map]; omega, fun z hz => ?_⟩
    obtain ⟨n, _, rfl⟩ := List.mem_map.mp hz
    exact ⟨_, .int n⟩
  ·rw [tupV_at hp] at e; cases e; simp
noncomputable def spCheckRule (cR : Addr) : Sp := fun vs H Q E => ∃ v, vs = [v] ∧ Plain H v ∧ ∀ H', Same H H' → if isRuleV H v = true then Q .non H' else E (.ref cR) none H'
noncomputable def spReckon : Sp := fun vs H Q _ => ∃ v r k z, vs = [v, .int k, .int z] ∧ RlAt H v r ∧ r.Ok ∧ (0 ≤ k ∧ k ≤ 999999) ∧ (1 ≤ z ∧ z ≤ 100000) ∧ Q (.int (r.home k z)) H
theorem ofWhole {v : V} {lo hi : Int} (h : wholeV v lo hi = true) : ∃ i, v = .int i ∧ lo ≤ i ∧ i ≤ hi := by
 cases v with
 | int i =>
  simp only [wholeV, Bool.and_eq_true, decide_eq_true_eq] at h
  exact ⟨i, rfl, h.1, h.2⟩
 | _ => simp [wholeV] at h
theorem tupV_some {H : Hp} {v : V} {xs : List V} (h : tupV H v = some xs) : ∃ p, v = .ref p ∧ H p = some (.tup xs) := by
 unfold tupV at h
 split at h
 ·split at h
  ·rename_i a _ ys e
   cases h
   exact ⟨a, rfl, e⟩
  ·cases h
 ·cases h
theorem allWhole {hi : Int} : ∀ {ns : List V}, (ns.all fun z => wholeV z 0 hi) = true → ∃ ms : List Int, ns = ms.map V.int ∧ ∀ m ∈ ms, 0 ≤ m ∧ m ≤ hi
 | [], _ => ⟨[], rfl, fun _ z => nomatch z⟩
 | n :: ns, h => by
  rw [List.all_cons, Bool.and_eq_true] at h
  obtain ⟨i, rfl, a, b⟩ := ofWhole h.1
  obtain ⟨ms, rfl, k⟩ := allWhole h.2
  refine ⟨i :: ms, rfl, fun m hm => ?_⟩
  rcases List.mem_cons.mp hm with rfl | hm
  ·exact ⟨a, b⟩
  ·exact k m hm
theorem ofTimes {xs : List V} (h : isTimesV xs = true) : ∃ x a b, xs = [x, .int a, .int b] ∧ (0 ≤ a ∧ a ≤ 999999) ∧ 0 ≤ b ∧ b ≤ 999999 := by
 by_cases hl : xs.length = 3
 ·obtain ⟨x, y, z, rfl⟩ := len3 hl
  simp only [isTimesV, Bool.and_eq_true] at h
  obtain ⟨a, rfl, a1, a2⟩ := ofWhole h.1
  obtain ⟨b, rfl, b1, b2⟩ := ofWhole h.2
  exact ⟨x, a, b, rfl, ⟨a1, a2⟩, b1, b2⟩
 ·rw [isTimes_no hl] at h; cases h
theorem ofHigh {xs : List V} (h : isHighV xs = true) : ∃ x a b, xs = [x, .int a, .int b] ∧ (0 ≤ a ∧ a ≤ 999999) ∧ 1 ≤ b ∧ b ≤ 30 := by
 by_cases hl : xs.length = 3
 ·obtain ⟨x, y, z, rfl⟩ := len3 hl
  simp only [isHighV, Bool.and_eq_true] at h
  obtain ⟨a, rfl, a1, a2⟩ := ofWhole h.1
  obtain ⟨b, rfl, b1, b2⟩ := ofWhole h.2
  exact ⟨x, a, b, rfl, ⟨a1, a2⟩, b1, b2⟩
 ·rw [isHigh_no hl] at h; cases h
theorem ofTold {H : Hp} {xs : List V} (h : isToldV H xs = true) : ∃ x q ns, xs = [x, .ref q] ∧ H q = some (.tup (List.map V.int ns)) ∧ (1 ≤ ns.length ∧ ns.length ≤ 64) ∧ ∀ n ∈ ns, 0 ≤ n ∧ n ≤ 999 := by
 by_cases hl : xs.length = 2
 ·obtain ⟨x, y, rfl⟩ := len2 hl
  simp only [isToldV] at h
  cases e : tupV H y with
  | none => rw [e] at h; cases h
  | some ys =>
   rw [e] at h
   simp only [Bool.and_eq_true, decide_eq_true_eq] at h
   obtain ⟨⟨h1, h2⟩, h3⟩ := h
   obtain ⟨q, rfl, hq⟩ := tupV_some e
   obtain ⟨ms, rfl, k⟩ := allWhole h3
   rw [List.length_map] at h1 h2
   exact ⟨x, q, ms, rfl, hq, ⟨h1, h2⟩, k⟩
 ·rw [isTold_no hl] at h; cases h
theorem ofRule {H : Hp} {v : V} (h : isRuleV H v = true) : ∃ r, RlAt H v r ∧ r.Ok := by
 unfold isRuleV at h
 split at h
 ·rename_i s r e
  obtain ⟨p, rfl, hp⟩ := tupV_some e
  by_cases h1 : s = "times"
  ·rw [if_pos h1] at h
   obtain ⟨x, a, b, e2, k⟩ := ofTimes h
   rw [e2] at hp
   have := (List.cons.inj e2).1
   subst this h1
   exact ⟨.times a b, ⟨p, rfl, hp⟩, k⟩
  ·rw [if_neg h1] at h
   by_cases h2 : s = "high"
   ·rw [if_pos h2] at h
    obtain ⟨x, a, b, e2, k⟩ := ofHigh h
    rw [e2] at hp
    have := (List.cons.inj e2).1
    subst this h2
    exact ⟨.high a b, ⟨p, rfl, hp⟩, k⟩
   ·rw [if_neg h2, Bool.and_eq_true, decide_eq_true_eq] at h
    obtain ⟨h3, h⟩ := h
    obtain ⟨x, q, ns, e2, hq, k⟩ := ofTold h
    rw [e2] at hp
    have := (List.cons.inj e2).1
    subst this h3
    exact ⟨.told ns, ⟨p, q, rfl, hp, hq⟩, k⟩
 ·cases h
theorem sT (a b : Str) (h : a ≠ b) : decide (V.str a = V.str b) = false := decide_eq_false fun z => h (V.str.inj z)
theorem sY (a : Str) : decide (V.str a = V.str a) = true := decide_eq_true rfl
theorem mulS {i j : Int} (h1 : 0 ≤ j) (h2 : j ≤ 999999999) : CMulA i j := .inl (.inr ⟨by omega, by omega⟩)
theorem pow30 {n : Nat} (h : n ≤ 30) : (0 : Int) < 2 ^ n ∧ (2 : Int) ^ n ≤ 1073741824 := by
 refine ⟨Int.pow_pos (by decide), ?_⟩
 have : (2 : Nat) ^ n ≤ 2 ^ 30 := Nat.pow_le_pow_right (by decide) h
 have e : ((2 ^ n : Nat) : Int) = (2 : Int) ^ n := by rw [Int.natCast_pow]; rfl
 rw [← e]
 exact Int.ofNat_le.mpr this
theorem atI_getD {ns : List Int} {j : Int} (h0 : 0 ≤ j) (h1 : j < ns.length) : atI (ns.map V.int) j = some (.int (ns.getD j.toNat 0)) := by
 have h2 : j.toNat < ns.length := by omega
 have e : ((j.toNat : Nat) : Int) = j := by omega
 have := atI_nat (xs := ns.map V.int) (j := j.toNat) (v := .int (ns.getD j.toNat 0)) (by rw [List.getElem?_map, List.getElem?_eq_getElem h2]; simp [List.getD, h2])
 rw [e] at this
 exact this
noncomputable def spHome (cR cK cZ : Addr) : Sp := fun vs H Q E => ∃ v k z T1 T2, vs = [v, k, z] ∧ Plain H v ∧ Kn H k T1 ∧ Kn H z T2 ∧ ∀ H', Same H H' →
 (isRuleV H v = false → E (.ref cR) none H') ∧ (isRuleV H v = true → wholeV k 0 999999 = false → E (.ref cK) none H') ∧ (isRuleV H v = true → wholeV k 0 999999 = true → wholeV z 2 64 = false → E (.ref cZ) none H') ∧
 ∀ r ki zi, RlAt H v r → r.Ok → k = .int ki → z = .int zi → (0 ≤ ki ∧ ki ≤ 999999) → (2 ≤ zi ∧ zi ≤ 64) → Q (.int (r.home ki zi)) H'
theorem cpw {j : Int} (h0 : 0 ≤ j) (h1 : j ≤ 1000000) : CPow 2 j := ⟨h0, h1, by decide⟩
theorem cpw1 {j : Int} (h0 : 0 ≤ j) (h1 : j ≤ 1000000) : CPow 1 j := ⟨h0, h1, by decide⟩
theorem shl1 {i : Int} {n : Nat} (h : n ≤ 64) : CDivA i (1 * 2 ^ n) := by
 have h1 : (2 : Nat) ^ n ≤ 2 ^ 64 := Nat.pow_le_pow_right (by decide) h
 have e : ((2 ^ n : Nat) : Int) = (2 : Int) ^ n := by rw [Int.natCast_pow]; rfl
 rw [Int.one_mul]
 refine divC (Int.pow_pos (by decide)) ?_
 rw [← e]
 exact Int.ofNat_le.mpr h1
theorem memI (Pr : Int → Prop) : ∀ {ns : List Int} {v : V}, v ∈ ns.map V.int → (∀ n ∈ ns, Pr n) → ∃ i, v = .int i ∧ Pr i := fun h k => by
 obtain ⟨n, hn, rfl⟩ := List.mem_map.mp h
 exact ⟨n, rfl, k n hn⟩
theorem allI {Pr : Int → Prop} : ∀ n ∈ ([] : List Int), Pr n := fun _ h => nomatch h
theorem allC {Pr : Int → Prop} {a : Int} {ns : List Int} (h : Pr a) (k : ∀ n ∈ ns, Pr n) : ∀ n ∈ a :: ns, Pr n := fun n hn => by
 rcases List.mem_cons.mp hn with rfl | hn
 ·exact h
 ·exact k n hn
theorem Rl.inj {H : Hp} {v : V} {r r' : Rl} (h : RlAt H v r) (h' : RlAt H v r') : r = r' := by
 cases r with
 | times a b =>
  obtain ⟨p, rfl, hp⟩ := h
  cases r' with
  | times c d => obtain ⟨p', e, hp'⟩ := h'; cases e; rw [hp] at hp'; injection hp' with e; injection e with e; simp only [List.cons.injEq, V.int.injEq] at e; rw [e.2.1, e.2.2.1]
  | high c d => obtain ⟨p', e, hp'⟩ := h'; cases e; rw [hp] at hp'; injection hp' with e; injection e with e; simp only [List.cons.injEq, V.str.injEq] at e; exact absurd e.1 (by decide +kernel)
  | told ns => obtain ⟨p', _, e, hp', _⟩ := h'; cases e; rw [hp] at hp'; injection hp' with e; injection e with e; simp only [List.cons.injEq, V.str.injEq] at e; exact absurd e.1 (by decide +kernel)
 | high a b =>
  obtain ⟨p, rfl, hp⟩ := h
  cases r' with
  | high c d => obtain ⟨p', e, hp'⟩ := h'; cases e; rw [hp] at hp'; injection hp' with e; injection e with e; simp only [List.cons.injEq, V.int.injEq] at e; rw [e.2.1, e.2.2.1]
  | times c d => obtain ⟨p', e, hp'⟩ := h'; cases e; rw [hp] at hp'; injection hp' with e; injection e with e; simp only [List.cons.injEq, V.str.injEq] at e; exact absurd e.1 (by decide +kernel)
  | told ns => obtain ⟨p', _, e, hp', _⟩ := h'; cases e; rw [hp] at hp'; injection hp' with e; injection e with e; simp only [List.cons.injEq, V.str.injEq] at e; exact absurd e.1 (by decide +kernel)
 | told ns =>
  obtain ⟨p, q, rfl, hp, hq⟩ := h
  cases r' with
  | high c d => obtain ⟨p', e, hp'⟩ := h'; cases e; rw [hp] at hp'; injection hp' with e; injection e with e; simp only [List.cons.injEq, V.str.injEq] at e; exact absurd e.1 (by decide +kernel)
  | times c d => obtain ⟨p', e, hp'⟩ := h'; cases e; rw [hp] at hp'; injection hp' with e; injection e with e; simp only [List.cons.injEq, V.str.injEq] at e; exact absurd e.1 (by decide +kernel)
  | told ms =>
   obtain ⟨p', q', e, hp', hq'⟩ := h'
   cases e
   rw [hp] at hp'; injection hp' with e; injection e with e; simp only [List.cons.injEq, V.ref.injEq] at e
   rw [← e.2.1, hq] at hq'; injection hq' with e; injection e with e
   rw [List.map_inj_right (fun _ _ z => V.int.inj z)] at e
   rw [e]
noncomputable def spHomeL : Sp := fun vs H Q _ => ∃ v r k z, vs = [v, .int k, .int z] ∧ RlAt H v r ∧ r.Ok ∧ (0 ≤ k ∧ k ≤ 999999) ∧ (1 ≤ z ∧ z ≤ 100000) ∧ Q (.int (r.home k z)) H
noncomputable def spRuleL : Sp := fun vs H Q _ => ∃ m, vs = [.int m] ∧ 0 ≤ m ∧ m < 2 ^ 128 ∧ ∀ v r H', Same H H' → RlAt H' v r → r.Ok → Q v H'
end SC
namespace S40
noncomputable def mem (p : Nat) : List Nat → Bool
 | [] => false
 | q :: r => Nat.beq p q || mem p r
theorem mem_iff {p : Nat} : ∀ {l : List Nat}, mem p l = true ↔ p ∈ l
 | [] => by simp [mem]
 | q :: r => by
  rw [mem, Bool.or_eq_true, mem_iff, List.mem_cons]
  constructor
  ·rintro (h | h)
   ·exact .inl (Nat.eq_of_beq_eq_true h)
   ·exact .inr h
  ·rintro (h | h)
   ·exact .inl (by rw [h]; exact Nat.beq_refl q)
   ·exact .inr h
noncomputable def tOf (s : Nat) (acc : List Nat) : Nat → Nat → Nat
 | 0, _ => 0
 | f + 1, p => bif mem p acc then tOf s acc f ((p + 1) % s) + 1 else 0
noncomputable def tt (s : Nat) (acc : List Nat) (p : Nat) : Nat := tOf s acc s p
noncomputable def fps (s : Nat) (acc : List Nat) : List Nat → List Nat
 | [] => acc
 | h :: r => fps s (acc ++ [(h + tt s acc h) % s]) r
noncomputable def wts (s : Nat) (acc : List Nat) : List Nat → Nat
 | [] => 0
 | h :: r => tt s acc h + wts s (acc ++ [(h + tt s acc h) % s]) r
theorem fps_snoc (s : Nat) : ∀ (l : List Nat) (acc : List Nat) (h : Nat), fps s acc (l ++ [h]) = fps s acc l ++ [(h + tt s (fps s acc l) h) % s]
 | [], acc, h => rfl
 | x :: l, acc, h => by rw [List.cons_append, fps, fps, fps_snoc s l]
theorem wts_snoc (s : Nat) : ∀ (l : List Nat) (acc : List Nat) (h : Nat), wts s acc (l ++ [h]) = wts s acc l + tt s (fps s acc l) h
 | [], acc, h => by simp [wts, fps]
 | x :: l, acc, h => by rw [List.cons_append, wts, wts, fps, wts_snoc s l, Nat.add_assoc]
theorem fps_len (s : Nat) : ∀ (l acc : List Nat), (fps s acc l).length = acc.length + l.length
 | [], acc => rfl
 | h :: r, acc => by rw [fps, fps_len s r, List.length_append]; simp only [List.length_cons, List.length_nil]; omega
theorem len_sub : ∀ {l m : List Nat}, l.Nodup → (∀ x ∈ l, x ∈ m) → l.length ≤ m.length
 | [], m, _, _ => Nat.zero_le _
 | x :: l, m, nd, h => by
  rw [List.nodup_cons] at nd
  have h1 : x ∈ m := h x (List.mem_cons_self ..)
  have h2 := len_sub (l := l) (m := m.erase x) nd.2 fun y hy => by
   have hne : y ≠ x := fun e => nd.1 (e ▸ hy)
   exact (List.mem_erase_of_ne hne).mpr (h y (List.mem_cons_of_mem _ hy))
  rw [List.length_erase_of_mem h1] at h2
  have := List.length_pos_of_mem h1
  simp only [List.length_cons]
  omega
theorem mod_ne {s p u v : Nat} (h1 : u < v) (h2 : v < u + s) : (p + u) % s ≠ (p + v) % s := fun e => by
 have h : (p + v - (p + u)) % s = 0 := Nat.sub_mod_eq_zero_of_mod_eq e.symm
 have h3 : p + v - (p + u) = v - u := by omega
 rw [h3, Nat.mod_eq_of_lt (by omega)] at h
 omega
theorem run_le {s p : Nat} {acc : List Nat} {t : Nat} (ht : t ≤ s) (h : ∀ u, u < t → (p + u) % s ∈ acc) : t ≤ acc.length := by
 have nd : ((List.range t).map fun u => (p + u) % s).Nodup := by
  rw [List.nodup_iff_pairwise_ne, List.pairwise_map]
  refine List.Pairwise.imp_of_mem ?_ (List.pairwise_lt_range (n := t))
  intro a b ha hb hab
  rw [List.mem_range] at ha hb
  exact mod_ne hab (by omega)
 have := len_sub nd (m := acc) fun x hx => by
  obtain ⟨u, hu, rfl⟩ := List.mem_map.mp hx
  exact h u (List.mem_range.mp hu)
 simpa using this
theorem tOf_spec {s : Nat} {acc : List Nat} (hs : 0 < s) : ∀ (f p : Nat), p < s → (∃ t, t < f ∧ (p + t) % s ∉ acc) → (∀ u, u < tOf s acc f p → (p + u) % s ∈ acc) ∧ (p + tOf s acc f p) % s ∉ acc ∧ tOf s acc f p < f
 | 0, p, _, ⟨t, h, _⟩ => absurd h (Nat.not_lt_zero _)
 | f + 1, p, hp, ⟨t, ht, hn⟩ => by
  rw [tOf]
  cases c : mem p acc with
  | false =>
   have : p ∉ acc := fun z => by rw [mem_iff.mpr z] at c; cases c
   exact ⟨fun u hu => absurd hu (Nat.not_lt_zero _), by rw [cond_false, Nat.add_zero, Nat.mod_eq_of_lt hp]; exact this, Nat.succ_pos _⟩
  | true =>
   have hin := mem_iff.mp c
   have sh : ∀ u, ((p + 1) % s + u) % s = (p + (u + 1)) % s := fun u => by
    rw [Nat.mod_add_mod]; congr 1; omega
   have t0 : t ≠ 0 := fun z => by rw [z, Nat.add_zero, Nat.mod_eq_of_lt hp] at hn; exact hn hin
   obtain ⟨h1, h2, h3⟩ := tOf_spec hs f ((p + 1) % s) (Nat.mod_lt _ hs) ⟨t - 1, by omega, by rw [sh, Nat.sub_add_cancel (by omega)]; exact hn⟩
   rw [cond_true]
   refine ⟨fun u hu => ?_, ?_, by omega⟩
   ·cases u with
    | zero => rw [Nat.add_zero, Nat.mod_eq_of_lt hp]; exact hin
    | succ u => rw [← sh]; exact h1 u (by omega)
   ·rw [← sh]; exact h2
theorem tt_spec {s p : Nat} {acc : List Nat} (hp : p < s) (hl : acc.length < s) : (∀ u, u < tt s acc p → (p + u) % s ∈ acc) ∧ (p + tt s acc p) % s ∉ acc ∧ tt s acc p ≤ acc.length := by
 have ex : ∃ t, t < s ∧ (p + t) % s ∉ acc := by
  refine Classical.byContradiction fun c => ?_
  have := run_le (s := s) (p := p) (acc := acc) (t := s) (Nat.le_refl _) fun u hu => Classical.byContradiction fun z => c ⟨u, hu, z⟩
  omega
 obtain ⟨h1, h2, h3⟩ := tOf_spec (by omega) s p hp ex
 exact ⟨h1, h2, run_le (Nat.le_of_lt h3) h1⟩
end S40
namespace SC
open PySem L2 PyProof.Rows S40
noncomputable def spFirsts : Sp := fun vs H Q _ => ∃ (L : Addr) (s : Nat) (starts : List Nat), vs = [.ref L, .int s] ∧ H L = some (.lst (nats starts)) ∧ (∀ x ∈ starts, x < s) ∧ starts.length < s ∧ s ≤ 1000 ∧ ∀ p H', Same H H' → H' p = some (.lst (nats (fps s [] starts))) → Q (.ref p) H'
theorem fps_take {s : Nat} {l : List Nat} {i : Nat} {x : Nat} (h : l[i]? = some x) : fps s [] (l.take (i + 1)) = fps s [] (l.take i) ++ [(x + tt s (fps s [] (l.take i)) x) % s] ∧ wts s [] (l.take (i + 1)) = wts s [] (l.take i) + tt s (fps s [] (l.take i)) x := by
 obtain ⟨hi, rfl⟩ := List.getElem?_eq_some_iff.mp h
 rw [List.take_succ_eq_append_getElem hi, fps_snoc, wts_snoc]
 exact ⟨rfl, rfl⟩
theorem fps_tlen {s : Nat} {l : List Nat} {i : Nat} (h : i ≤ l.length) : (fps s [] (l.take i)).length = i := by
 rw [fps_len, List.length_take]; simp only [List.length_nil]; omega
theorem next_place {s x u : Nat} : ((((x + u) % s : Nat) : Int) + 1) % (s : Int) = (((x + (u + 1)) % s : Nat) : Int) := by
 have e : ((((x + u) % s : Nat) : Int) + 1) = (((x + u) % s + 1 : Nat) : Int) := by omega
 rw [e, ← Int.natCast_emod, Nat.mod_add_mod]
 rfl
end SC
namespace Ly
noncomputable def nx (n p : Nat) : Nat := if p + 1 = n then 0 else p + 1
noncomputable def dist (n a b : Nat) : Nat := if a ≤ b then b - a else b + n - a
noncomputable def rho (n e i : Nat) : Nat := if e + 1 + i < n then e + 1 + i else e + 1 + i - n
noncomputable def off (n e p : Nat) : Nat := if e < p then p - e - 1 else p + n - e - 1
theorem rho_lt {n e i : Nat} (he : e < n) (hi : i < n) : rho n e i < n := by unfold rho; split <;> omega
theorem off_lt {n e p : Nat} (he : e < n) (hp : p < n) : off n e p < n := by unfold off; split <;> omega
theorem rho_is {n e i : Nat} (he : e < n) (hi : i < n) : rho n e i < n ∧ (rho n e i = e + 1 + i ∨ rho n e i + n = e + 1 + i) := by
 unfold rho
 by_cases c : e + 1 + i < n
 ·rw [if_pos c]; exact ⟨c, .inl rfl⟩
 ·rw [if_neg c]; omega
theorem off_is {n e p : Nat} (he : e < n) (hp : p < n) : off n e p < n ∧ (e + 1 + off n e p = p ∨ e + 1 + off n e p = p + n) := by
 unfold off
 by_cases c : e < p
 ·rw [if_pos c]; omega
 ·rw [if_neg c]; omega
theorem rho_of {n e i p : Nat} (hp : p < n) (h : p = e + 1 + i ∨ p + n = e + 1 + i) : rho n e i = p := by
 unfold rho
 rcases h with h | h
 ·rw [if_pos (h ▸ hp), h]
 ·rw [if_neg (by rw [← h]; exact Nat.not_lt.mpr (Nat.le_add_left n p)), ← h, Nat.add_sub_cancel]
theorem off_of {n e p d : Nat} (h : e + 1 + d = p ∨ (p ≤ e ∧ e + 1 + d = p + n)) : off n e p = d := by
 unfold off
 rcases h with h | ⟨h1, h⟩
 ·rw [if_pos (by rw [← h]; exact Nat.lt_of_lt_of_le (Nat.lt_succ_self e) (Nat.le_add_right _ _)), Nat.sub_sub, ← h, Nat.add_sub_cancel_left]
 ·rw [if_neg (Nat.not_lt.mpr h1), Nat.sub_sub, ← h, Nat.add_sub_cancel_left]
theorem off_rho {n e i : Nat} (he : e < n) (hi : i < n) : off n e (rho n e i) = i := by
 obtain ⟨_, p2⟩ := rho_is he hi
 clear he
 rcases p2 with h | h
 ·exact off_of (.inl h.symm)
 ·exact off_of (.inr ⟨by omega, h.symm⟩)
theorem rho_off {n e p : Nat} (he : e < n) (hp : p < n) : rho n e (off n e p) = p := rho_of hp ((off_is he hp).2.elim (fun h => .inl h.symm) fun h => .inr h.symm)
theorem rho_inj {n e i j : Nat} (he : e < n) (hi : i < n) (hj : j < n) (h : rho n e i = rho n e j) : i = j := by
 rw [← off_rho he hi, ← off_rho he hj, h]
theorem rho_last {n e : Nat} (he : e < n) : rho n e (n - 1) = e := by unfold rho; split <;> omega
theorem nx_rho {n e i : Nat} (he : e < n) (hi : i + 1 < n) : nx n (rho n e i) = rho n e (i + 1) := by
 obtain ⟨p1, p2⟩ := rho_is he (Nat.lt_of_succ_lt hi)
 generalize rho n e i = p at p1 p2
 unfold nx
 by_cases c : p + 1 = n
 ·rw [if_pos c]
  exact (rho_of (Nat.lt_of_le_of_lt (Nat.zero_le _) he) (.inr (by omega))).symm
 ·rw [if_neg c]
  refine (rho_of (by clear he hi p2; omega) ?_).symm
  clear p1 c he hi
  omega
theorem off_e {n e : Nat} (he : e < n) : off n e e = n - 1 := by unfold off; split <;> omega
theorem dist_of {n a b d : Nat} (h : a + d = b ∨ (b < a ∧ a + d = b + n)) : dist n a b = d := by
 unfold dist
 rcases h with h | ⟨h1, h⟩
 ·rw [if_pos (h ▸ Nat.le_add_right a d), ← h, Nat.add_sub_cancel_left]
 ·rw [if_neg (Nat.not_le_of_lt h1), ← h, Nat.add_sub_cancel_left]
theorem dist_rho {n e i j : Nat} (he : e < n) (hi : i < n) (hj : j < n) : dist n (rho n e i) (rho n e j) = if i ≤ j then j - i else j + n - i := by
 obtain ⟨p1, p2⟩ := rho_is he hi
 obtain ⟨q1, q2⟩ := rho_is he hj
 generalize rho n e i = p at p1 p2
 generalize rho n e j = q at q1 q2
 clear he
 refine dist_of ?_
 by_cases c : i ≤ j
 ·obtain ⟨d, rfl⟩ := Nat.le.dest c
  rw [if_pos c, Nat.add_sub_cancel_left]
  clear c hi
  omega
 ·rw [if_neg c]
  obtain ⟨d, hd⟩ := Nat.le.dest (show i ≤ j + n by omega)
  rw [← hd, Nat.add_sub_cancel_left]
  omega
noncomputable def lt (o : Int → Nat) (y k : Int) : Prop := o y < o k ∨ (o y = o k ∧ y < k)
theorem lt_irr {o : Int → Nat} {k : Int} : ¬ lt o k k := fun h => by unfold lt at h; omega
theorem lt_tr {o : Int → Nat} {a b c : Int} (h : lt o a b) (h' : lt o b c) : lt o a c := by unfold lt at *; omega
theorem lt_asy {o : Int → Nat} {a b : Int} (h : lt o a b) (h' : lt o b a) : False := by unfold lt at *; omega
theorem lt_tot {o : Int → Nat} {a b : Int} (h : ¬ lt o a b) (hn : a ≠ b) : lt o b a := by unfold lt at *; omega
theorem lt_le {o : Int → Nat} {a b : Int} (h : lt o a b) : o a ≤ o b := by unfold lt at *; omega
structure Lin (o : Int → Nat) (f : Nat → Option Int) : Prop where
 inj : ∀ i j k, f i = some k → f j = some k → i = j
 le : ∀ i k, f i = some k → o k ≤ i
 lay : ∀ i k, f i = some k → ∀ j, o k ≤ j → j < i → ∃ y, f j = some y ∧ lt o y k
structure IsLay (n : Nat) (h : Int → Nat) (F : Nat → Option Int) : Prop where
 inj : ∀ i j k, i < n → j < n → F i = some k → F j = some k → i = j
 lay : ∀ i k, i < n → F i = some k → ∀ j, j < n → dist n (h k) j < dist n (h k) i → ∃ y, F j = some y ∧ (dist n (h k) j < dist n (h y) j ∨ (dist n (h y) j = dist n (h k) j ∧ y < k))
noncomputable def lin (n e : Nat) (F : Nat → Option Int) (i : Nat) : Option Int := if i < n then F (rho n e i) else none
theorem lin_lt {n e : Nat} {F : Nat → Option Int} {i : Nat} {k : Int} (h : lin n e F i = some k) : i < n ∧ F (rho n e i) = some k := by
 unfold lin at h
 split at h
 ·exact ⟨‹_›, h⟩
 ·cases h
theorem lin_at {n e : Nat} {F : Nat → Option Int} {i : Nat} (h : i < n) : lin n e F i = F (rho n e i) := by simp [lin, h]
section
variable {n e : Nat} {h : Int → Nat} {F : Nat → Option Int}
theorem IsLay.lin (L : IsLay n h F) (he : e < n) (hF : F e = none) (hh : ∀ k, h k < n) : Lin (fun k => off n e (h k)) (lin n e F) := by
 have le : ∀ i k, i < n → F (rho n e i) = some k → off n e (h k) ≤ i := fun i k hi hk => by
  refine Nat.le_of_not_lt fun c => ?_
  have hne : i ≠ n - 1 := fun z => by rw [z, rho_last he, hF] at hk; cases hk
  have d1 := dist_rho he (off_lt he (hh k)) hi
  have d2 := dist_rho he (off_lt he (hh k)) (show n - 1 < n by omega)
  rw [rho_off he (hh k)] at d1 d2
  rw [rho_last he] at d2
  have := off_lt he (hh k)
  obtain ⟨y, hy, _⟩ := L.lay _ k (rho_lt he hi) hk e he (by
   rw [if_neg (by omega)] at d1
   rw [if_pos (by omega)] at d2
   omega)
  rw [hF] at hy; cases hy
 refine ⟨fun i j k hi hj => ?_, fun i k hi => ?_, fun i k hi j h1 h2 => ?_⟩
 ·obtain ⟨a, b⟩ := lin_lt hi
  obtain ⟨c, d⟩ := lin_lt hj
  exact rho_inj he a c (L.inj _ _ k (rho_lt he a) (rho_lt he c) b d)
 ·obtain ⟨a, b⟩ := lin_lt hi
  exact le i k a b
 ·obtain ⟨a, b⟩ := lin_lt hi
  have hj : j < n := by omega
  have d1 := dist_rho he (off_lt he (hh k)) a
  have d2 := dist_rho he (off_lt he (hh k)) hj
  rw [rho_off he (hh k)] at d1 d2
  obtain ⟨y, hy, c⟩ := L.lay _ k (rho_lt he a) b (rho n e j) (rho_lt he hj) (by
   rw [if_pos (by omega)] at d1 d2
   omega)
  refine ⟨y, by rw [lin_at hj]; exact hy, ?_⟩
  have d3 := dist_rho he (off_lt he (hh y)) hj
  rw [rho_off he (hh y)] at d3
  have l3 := le j y hj hy
  rw [d2, d3, if_pos (by omega), if_pos l3] at c
  unfold lt
  dsimp only at *
  omega
theorem Lin.ring (L : Lin (fun k => off n e (h k)) (Ly.lin n e F)) (he : e < n) (hh : ∀ k, h k < n) : IsLay n h F := by
 have tr : ∀ i k, i < n → F i = some k → Ly.lin n e F (off n e i) = some k := fun i k hi hk => by
  rw [lin_at (off_lt he hi), rho_off he hi]; exact hk
 refine ⟨fun i j k hi hj h1 h2 => ?_, fun i k hi hk j hj hd => ?_⟩
 ·have := L.inj _ _ k (tr i k hi h1) (tr j k hj h2)
  rw [← rho_off he hi, ← rho_off he hj, this]
 ·have l1 := L.le _ _ (tr i k hi hk)
  have d1 := dist_rho he (off_lt he (hh k)) (off_lt he hi)
  have d2 := dist_rho he (off_lt he (hh k)) (off_lt he hj)
  rw [rho_off he (hh k), rho_off he hi] at d1
  rw [rho_off he (hh k), rho_off he hj] at d2
  have b1 := off_lt he hi
  have b2 := off_lt he hj
  have b3 := off_lt he (hh k)
  skip
  rw [d1, d2, if_pos l1] at hd
  have l2 : off n e (h k) ≤ off n e j := by
   refine Nat.le_of_not_lt fun c => ?_
   rw [if_neg (by omega)] at hd
   omega
  rw [if_pos l2] at hd
  obtain ⟨y, hy, c⟩ := L.lay _ _ (tr i k hi hk) (off n e j) l2 (by omega)
  have l3 := L.le _ _ hy
  rw [lin_at (off_lt he hj), rho_off he hj] at hy
  have d3 := dist_rho he (off_lt he (hh y)) (off_lt he hj)
  rw [rho_off he (hh y), rho_off he hj] at d3
  refine ⟨y, hy, ?_⟩
  skip
  rw [d2, d3, if_pos l2, if_pos l3]
  unfold lt at c
  dsimp only at c
  omega
end
noncomputable def has (f : Nat → Option Int) (k : Int) : Prop := ∃ i, f i = some k
theorem Lin.one {o : Int → Nat} {f g : Nat → Option Int} (A : Lin o f) (B : Lin o g) (s : ∀ k, has f k ↔ has g k) : ∀ i, f i = g i := by
 have half : ∀ (f g : Nat → Option Int), Lin o f → Lin o g → (∀ k, has f k ↔ has g k) → ∀ i, (∀ j, j < i → f j = g j) → ∀ k, f i = some k → g i = some k := by
  intro f g A B s i ih k hk
  obtain ⟨m, hm⟩ := (s k).mp ⟨i, hk⟩
  have m1 : ¬ m < i := fun c => by
   have := A.inj _ _ _ (by rw [ih m c]; exact hm) hk
   omega
  by_cases e : m = i
  ·rw [← e]; exact hm
  obtain ⟨y, hy, c⟩ := B.lay _ _ hm i (A.le _ _ hk) (by omega)
  obtain ⟨m', hm'⟩ := (s y).mpr ⟨i, hy⟩
  have m2 : ¬ m' < i := fun c => by
   have := B.inj _ _ _ (by rw [← ih m' c]; exact hm') hy
   omega
  have m3 : m' ≠ i := fun q => by
   rw [q, hk] at hm'; cases hm'
   exact lt_irr c
  obtain ⟨z, hz, c'⟩ := A.lay _ _ hm' i (B.le _ _ hy) (by omega)
  rw [hk] at hz; cases hz
  exact (lt_asy c c').elim
 intro i
 induction i using Nat.strongRecOn with
 | ind i ih =>
  cases e1 : f i with
  | some k => exact (half f g A B s i ih k e1).symm
  | none =>
   cases e2 : g i with
   | none => rfl
   | some k =>
    have := half g f B A (fun k => (s k).symm) i (fun j hj => (ih j hj).symm) k e2
    rw [e1] at this; cases this
noncomputable def putP (f : Nat → Option Int) (k : Int) (p q i : Nat) : Option Int := if i < p then f i else if i = p then some k else if i ≤ q then f (i - 1) else f i
theorem Lin.put {o : Int → Nat} {f : Nat → Option Int} {k : Int} {p q : Nat} (A : Lin o f) (hk : ¬ has f k) (hp : o k ≤ p) (ha : ∀ j, o k ≤ j → j < p → ∃ y, f j = some y ∧ lt o y k)
  (hs : ∀ y, f p = some y → ¬ lt o y k) (hpq : p ≤ q) (hf : ∀ j, p ≤ j → j < q → ∃ y, f j = some y) (hq : f q = none) : Lin o (putP f k p q) := by
 have kp : ∀ y, f p = some y → lt o k y := fun y hy => lt_tot (hs y hy) fun e => hk ⟨p, e ▸ hy⟩
 refine ⟨fun i j x hi hj => ?_, fun i x hi => ?_, fun i x hi j h1 h2 => ?_⟩
 ·have nk : ∀ m, f m ≠ some k := fun m z => hk ⟨m, z⟩
  unfold putP at hi hj
  split at hi
  ·split at hj
   ·exact A.inj _ _ _ hi hj
   ·split at hj
    ·cases hj; exact absurd hi (nk _)
    ·split at hj
     ·have := A.inj _ _ _ hi hj; omega
     ·exact A.inj _ _ _ hi hj
  ·split at hi
   ·cases hi
    split at hj
    ·exact absurd hj (nk _)
    ·split at hj
     ·omega
     ·split at hj
      ·exact absurd hj (nk _)
      ·exact absurd hj (nk _)
   ·split at hi
    ·split at hj
     ·have := A.inj _ _ _ hi hj; omega
     ·split at hj
      ·cases hj; exact absurd hi (nk _)
      ·split at hj
       ·have := A.inj _ _ _ hi hj; omega
       ·have := A.inj _ _ _ hi hj; omega
    ·split at hj
     ·exact A.inj _ _ _ hi hj
     ·split at hj
      ·cases hj; exact absurd hi (nk _)
      ·split at hj
       ·have := A.inj _ _ _ hi hj; omega
       ·exact A.inj _ _ _ hi hj
 ·unfold putP at hi
  split at hi
  ·exact A.le _ _ hi
  ·split at hi
   ·cases hi; omega
   ·split at hi
    ·have := A.le _ _ hi; omega
    ·exact A.le _ _ hi
 ·by_cases c1 : i < p
  ·simp only [putP, if_pos c1] at hi
   simp only [putP, if_pos (show j < p by omega)]
   exact A.lay _ _ hi j h1 h2
  by_cases c2 : i = p
  ·simp only [putP, if_neg c1, if_pos c2] at hi
   cases hi
   simp only [putP, if_pos (show j < p by omega)]
   exact ha j h1 (by omega)
  by_cases c3 : i ≤ q
  ·simp only [putP, if_neg c1, if_neg c2, if_pos c3] at hi
   have hx := A.le _ _ hi
   by_cases d1 : j < p
   ·simp only [putP, if_pos d1]
    exact A.lay _ _ hi j h1 (by omega)
   by_cases d2 : j = p
   ·simp only [putP, if_neg d1, if_pos d2]
    refine ⟨k, rfl, ?_⟩
    subst d2
    obtain ⟨y, hy⟩ := hf j (Nat.le_refl _) (by omega)
    by_cases d3 : i - 1 = j
    ·rw [d3] at hi; exact kp x hi
    ·obtain ⟨z, hz, c⟩ := A.lay _ _ hi j h1 (by omega)
     exact lt_tr (kp z hz) c
   ·simp only [putP, if_neg d1, if_neg d2, if_pos (show j ≤ q by omega)]
    by_cases d3 : o x ≤ j - 1
    ·exact A.lay _ _ hi (j - 1) d3 (by omega)
    ·obtain ⟨y, hy⟩ := hf (j - 1) (by omega) (by omega)
     exact ⟨y, hy, .inl (by have := A.le _ _ hy; omega)⟩
  ·simp only [putP, if_neg c1, if_neg c2, if_neg c3] at hi
   have : q < o x := by
    refine Nat.lt_of_not_le fun c => ?_
    obtain ⟨y, hy, _⟩ := A.lay _ _ hi q c (by omega)
    rw [hq] at hy; cases hy
   simp only [putP, if_neg (show ¬ j < p by omega), if_neg (show ¬ j = p by omega), if_neg (show ¬ j ≤ q by omega)]
   exact A.lay _ _ hi j h1 h2
theorem has_put {f : Nat → Option Int} {k : Int} {p q : Nat} (hpq : p ≤ q) (hq : f q = none) (x : Int) : has (putP f k p q) x ↔ x = k ∨ has f x := by
 constructor
 ·rintro ⟨i, hi⟩
  unfold putP at hi
  split at hi
  ·exact .inr ⟨_, hi⟩
  ·split at hi
   ·cases hi; exact .inl rfl
   ·split at hi
    ·exact .inr ⟨_, hi⟩
    ·exact .inr ⟨_, hi⟩
 ·rintro (rfl | ⟨i, hi⟩)
  ·exact ⟨p, by simp [putP]⟩
  ·by_cases c1 : i < p
   ·exact ⟨i, by simp only [putP, if_pos c1]; exact hi⟩
   by_cases c2 : i < q
   ·exact ⟨i + 1, by simp only [putP, if_neg (show ¬ i + 1 < p by omega), if_neg (show ¬ i + 1 = p by omega), if_pos (show i + 1 ≤ q by omega)]; exact hi⟩
   have c3 : i ≠ q := fun z => by rw [z, hq] at hi; cases hi
   exact ⟨i, by simp only [putP, if_neg (show ¬ i < p by omega), if_neg (show ¬ i = p by omega), if_neg (show ¬ i ≤ q by omega)]; exact hi⟩
noncomputable def dropF (f : Nat → Option Int) (p r i : Nat) : Option Int := if i < p then f i else if i < r then f (i + 1) else if i = r then none else f i
theorem Lin.drop {o : Int → Nat} {f : Nat → Option Int} {k : Int} {p r : Nat} (A : Lin o f) (hk : f p = some k) (hpr : p ≤ r) (hb : ∀ j, p < j → j ≤ r → ∃ y, f j = some y ∧ o y < j)
  (he : ∀ y, f (r + 1) = some y → o y = r + 1) : Lin o (dropF f p r) := by
 refine ⟨fun i j x hi hj => ?_, fun i x hi => ?_, fun i x hi j h1 h2 => ?_⟩
 ·unfold dropF at hi hj
  split at hi
  ·split at hj
   ·exact A.inj _ _ _ hi hj
   ·split at hj
    ·have := A.inj _ _ _ hi hj; omega
    ·split at hj
     ·cases hj
     ·exact A.inj _ _ _ hi hj
  ·split at hi
   ·split at hj
    ·have := A.inj _ _ _ hi hj; omega
    ·split at hj
     ·have := A.inj _ _ _ hi hj; omega
     ·split at hj
      ·cases hj
      ·have := A.inj _ _ _ hi hj; omega
   ·split at hi
    ·cases hi
    ·split at hj
     ·exact A.inj _ _ _ hi hj
     ·split at hj
      ·have := A.inj _ _ _ hi hj; omega
      ·split at hj
       ·cases hj
       ·exact A.inj _ _ _ hi hj
 ·by_cases c1 : i < p
  ·simp only [dropF, if_pos c1] at hi
   exact A.le _ _ hi
  by_cases c2 : i < r
  ·simp only [dropF, if_neg c1, if_pos c2] at hi
   obtain ⟨y, hy, c⟩ := hb (i + 1) (by omega) (by omega)
   rw [hi] at hy; cases hy
   omega
  by_cases c3 : i = r
  ·simp only [dropF, if_neg c1, if_neg c2, if_pos c3] at hi
   cases hi
  ·simp only [dropF, if_neg c1, if_neg c2, if_neg c3] at hi
   exact A.le _ _ hi
 ·by_cases c1 : i < p
  ·simp only [dropF, if_pos c1] at hi
   simp only [dropF, if_pos (show j < p by omega)]
   exact A.lay _ _ hi j h1 h2
  by_cases c2 : i < r
  ·simp only [dropF, if_neg c1, if_pos c2] at hi
   by_cases d1 : j < p
   ·simp only [dropF, if_pos d1]
    exact A.lay _ _ hi j h1 (by omega)
   ·simp only [dropF, if_neg d1, if_pos (show j < r by omega)]
    exact A.lay _ _ hi (j + 1) (by omega) (by omega)
  by_cases c3 : i = r
  ·simp only [dropF, if_neg c1, if_neg c2, if_pos c3] at hi
   cases hi
  ·simp only [dropF, if_neg c1, if_neg c2, if_neg c3] at hi
   have : r < o x := by
    refine Nat.lt_of_not_le fun c => ?_
    by_cases d : r + 1 = i
    ·have := he x (d ▸ hi); omega
    ·obtain ⟨y, hy, l⟩ := A.lay _ _ hi (r + 1) (by omega) (by omega)
     have a := he y hy
     have b := lt_le l
     omega
   simp only [dropF, if_neg (show ¬ j < p by omega), if_neg (show ¬ j < r by omega), if_neg (show ¬ j = r by omega)]
   exact A.lay _ _ hi j h1 h2
theorem has_drop {o : Int → Nat} {f : Nat → Option Int} {k : Int} {p r : Nat} (A : Lin o f) (hk : f p = some k) (hpr : p ≤ r) (x : Int) : has (dropF f p r) x ↔ x ≠ k ∧ has f x := by
 constructor
 ·rintro ⟨i, hi⟩
  unfold dropF at hi
  split at hi
  ·refine ⟨fun e => ?_, _, hi⟩
   subst e
   have := A.inj _ _ _ hk hi; omega
  ·split at hi
   ·refine ⟨fun e => ?_, _, hi⟩
    subst e
    have := A.inj _ _ _ hk hi; omega
   ·split at hi
    ·cases hi
    ·refine ⟨fun e => ?_, _, hi⟩
     subst e
     have := A.inj _ _ _ hk hi; omega
 ·rintro ⟨hx, i, hi⟩
  have c0 : i ≠ p := fun z => by rw [z, hk] at hi; cases hi; exact hx rfl
  by_cases c1 : i < p
  ·exact ⟨i, by simp only [dropF, if_pos c1]; exact hi⟩
  by_cases c2 : i ≤ r
  ·exact ⟨i - 1, by simp only [dropF, if_neg (show ¬ i - 1 < p by omega), if_pos (show i - 1 < r by omega), show i - 1 + 1 = i by omega]; exact hi⟩
  ·exact ⟨i, by simp only [dropF, if_neg c1, if_neg (show ¬ i < r by omega), if_neg (show ¬ i = r by omega)]; exact hi⟩
end Ly
namespace Ly
theorem pigeon : ∀ (m : Nat) (φ : Nat → Nat), (∀ i, i ≤ m → φ i < m) → (∀ i j, i ≤ m → j ≤ m → φ i = φ j → i = j) → False
 | 0, φ, h, _ => absurd (h 0 (Nat.le_refl _)) (Nat.not_lt_zero _)
 | m + 1, φ, h, inj => by
  refine pigeon m (fun i => if φ i = m then φ (m + 1) else φ i) (fun i hi => ?_) (fun i j hi hj e => ?_)
  ·have h1 := h i (by omega)
   have h2 := h (m + 1) (Nat.le_refl _)
   by_cases c : φ i = m
   ·rw [if_pos c]
    have : φ (m + 1) ≠ m := fun z => by
     have := inj i (m + 1) (by omega) (Nat.le_refl _) (by omega)
     omega
    omega
   ·rw [if_neg c]; omega
  ·have k1 : φ i ≠ φ (m + 1) := fun z => by have := inj i (m + 1) (by omega) (Nat.le_refl _) z; omega
   have k2 : φ j ≠ φ (m + 1) := fun z => by have := inj j (m + 1) (by omega) (Nat.le_refl _) z; omega
   by_cases c : φ i = m
   ·by_cases d : φ j = m
    ·exact inj i j (by omega) (by omega) (by omega)
    ·rw [if_pos c, if_neg d] at e; exact absurd e.symm k2
   ·by_cases d : φ j = m
    ·rw [if_neg c, if_pos d] at e; exact absurd e k1
    ·rw [if_neg c, if_neg d] at e; exact inj i j (by omega) (by omega) e
theorem run_start (g : Nat → Option Int) : ∀ m, (∃ k, g m = some k) → ∃ a, a ≤ m ∧ (∀ j, a ≤ j → j ≤ m → ∃ k, g j = some k) ∧ (a = 0 ∨ g (a - 1) = none)
  | 0, h => ⟨0, Nat.le_refl _, fun j _ hj => by have : j = 0 := by omega
                                                subst this; exact h, .inl rfl⟩
  | m + 1, h => by
    cases e : g m with
    | none => exact ⟨m + 1, Nat.le_refl _, fun j h1 h2 => by have : j = m + 1 := by omega
                                                             subst this; exact h, .inr e⟩
    | some k =>
      obtain ⟨a, h1, h2, h3⟩ := run_start g m ⟨k, e⟩
      refine ⟨a, by omega, fun j h4 h5 => ?_, h3⟩
      by_cases c : j = m + 1
      · subst c; exact h
      · exact h2 j h4 (by omega)
noncomputable def hasR (n : Nat) (F : Nat → Option Int) (k : Int) : Prop := ∃ i, i < n ∧ F i = some k
theorem has_lin {n e : Nat} {F : Nat → Option Int} (he : e < n) (k : Int) : has (lin n e F) k ↔ hasR n F k := by
 constructor
 ·rintro ⟨i, hi⟩
  obtain ⟨a, b⟩ := lin_lt hi
  exact ⟨_, rho_lt he a, b⟩
 ·rintro ⟨i, hi, hk⟩
  exact ⟨off n e i, by rw [lin_at (off_lt he hi), rho_off he hi]; exact hk⟩
section
variable {n : Nat} {h : Int → Nat} {F G : Nat → Option Int}
theorem off_low {n e e' p a m t i : Nat} (he : e < n) (he' : e' < n) (hp : p < n) (hm0 : off n e' e = m) (o1 : off n e' p ≤ a + t) (o2 : a ≤ off n e' p) (o3 : off n e p ≤ i) (ht : a + t ≤ m) (hin : i < n) : n - 1 - (m - a) ≤ i := by
 obtain ⟨x1, x2⟩ := off_is he' he
 obtain ⟨y1, y2⟩ := off_is he' hp
 obtain ⟨z1, z2⟩ := off_is he hp
 rw [hm0] at x1 x2
 generalize off n e' p = y at *
 generalize off n e p = z at *
 clear hm0 he he'
 omega
theorem lay_empty (A : IsLay n h F) (B : IsLay n h G) (hh : ∀ k, h k < n) (s : ∀ k, hasR n G k → hasR n F k) {e e' : Nat} (he : e < n) (hF : F e = none) (he' : e' < n) (hG : G e' = none) : G e = none := by
 cases c : G e with
 | none => rfl
 | some k0 =>
  exfalso
  have LB := B.lin he' hG hh
  have LA := A.lin he hF hh
  have hm : lin n e' G (off n e' e) = some k0 := by rw [lin_at (off_lt he' he), rho_off he' he]; exact c
  have hmn := off_lt he' he
  generalize hm0 : off n e' e = m at hm hmn
  obtain ⟨a, ha, run, st⟩ := run_start (lin n e' G) m ⟨k0, hm⟩
  have key : ∀ t, t ≤ m - a → ∃ k i, lin n e' G (a + t) = some k ∧ lin n e F i = some k ∧ n - 1 - (m - a) ≤ i ∧ i < n - 1 := fun t ht => by
   obtain ⟨k, hk⟩ := run (a + t) (by omega) (by omega)
   have o1 := LB.le _ _ hk
   have o2 : a ≤ off n e' (h k) := by
    refine Nat.le_of_not_lt fun z => ?_
    obtain ⟨y, hy, _⟩ := LB.lay _ _ hk (a - 1) (by omega) (by omega)
    rcases st with q | q
    ·omega
    ·rw [q] at hy; cases hy
   obtain ⟨i, hi⟩ := (has_lin he k).mpr (s k ((has_lin he' k).mp ⟨_, hk⟩))
   have o3 := LA.le _ _ hi
   obtain ⟨hin, hi'⟩ := lin_lt hi
   refine ⟨k, i, hk, hi, ?_, ?_⟩
   ·exact off_low he he' (hh k) hm0 o1 o2 o3 (by omega) hin
   ·have : i ≠ n - 1 := fun z => by rw [z, rho_last he, hF] at hi'; cases hi'
    omega
  have hn : a < n := by omega
  refine pigeon (m - a) (fun t => if ht : t ≤ m - a then (Classical.choose (Classical.choose_spec (key t ht))) - (n - 1 - (m - a)) else 0) (fun t ht => ?_) (fun t u ht hu q => ?_)
  ·obtain ⟨_, _, h3, h4⟩ := Classical.choose_spec (Classical.choose_spec (key t ht))
   simp only [ht, dif_pos]
   omega
  ·obtain ⟨g1, g2, g3, g4⟩ := Classical.choose_spec (Classical.choose_spec (key t ht))
   obtain ⟨k1, k2, k3, k4⟩ := Classical.choose_spec (Classical.choose_spec (key u hu))
   simp only [ht, hu, dif_pos] at q
   have q' : Classical.choose (Classical.choose_spec (key t ht)) = Classical.choose (Classical.choose_spec (key u hu)) := by omega
   rw [q', k2] at g2
   have := Option.some.inj g2
   rw [← this] at g1
   have := LB.inj _ _ _ g1 k1
   omega
theorem lay_one (A : IsLay n h F) (B : IsLay n h G) (hh : ∀ k, h k < n) (s : ∀ k, hasR n G k ↔ hasR n F k) {e e' : Nat} (he : e < n) (hF : F e = none) (he' : e' < n) (hG : G e' = none) : ∀ i, i < n → F i = G i := by
 have hG' := lay_empty A B hh (fun k => (s k).mp) he hF he' hG
 have := (A.lin he hF hh).one (B.lin he hG' hh) (fun k => by rw [has_lin he, has_lin he]; exact (s k).symm)
 intro i hi
 have q := this (off n e i)
 rw [lin_at (off_lt he hi), lin_at (off_lt he hi), rho_off he hi] at q
 exact q
end
end Ly
namespace Ly
noncomputable def sumTo : Nat → (Nat → Int) → Int
 | 0, _ => 0
 | n + 1, f => sumTo n f + f n
theorem sumTo_congr : ∀ {n : Nat} {f g : Nat → Int}, (∀ i, i < n → f i = g i) → sumTo n f = sumTo n g
 | 0, _, _, _ => rfl
 | n + 1, f, g, h => by rw [sumTo, sumTo, sumTo_congr (fun i hi => h i (by omega)), h n (by omega)]
theorem sumTo_add (a : Nat) (f : Nat → Int) : ∀ b, sumTo (a + b) f = sumTo a f + sumTo b (fun i => f (a + i))
 | 0 => by simp [sumTo]
 | b + 1 => by rw [← Nat.add_assoc, sumTo, sumTo, sumTo_add a f b, Int.add_assoc]
theorem sumTo_rot {n e : Nat} (he : e < n) (g : Nat → Int) : sumTo n (fun i => g (off n e i)) = sumTo n g := by
 have e1 : n = (e + 1) + (n - e - 1) := by omega
 have e2 : n = (n - e - 1) + (e + 1) := by omega
 have l : sumTo n (fun i => g (off n e i)) = sumTo (e + 1) (fun i => g (n - e - 1 + i)) + sumTo (n - e - 1) g := by
  have := sumTo_add (e + 1) (fun i => g (off n e i)) (n - e - 1)
  rw [← e1] at this
  rw [this]
  congr 1
  ·refine sumTo_congr fun i hi => ?_
   show g (off n e i) = _
   congr 1
   unfold off; split <;> omega
  ·refine sumTo_congr fun i hi => ?_
   show g (off n e (e + 1 + i)) = _
   congr 1
   unfold off; split <;> omega
 have r : sumTo n g = sumTo (n - e - 1) g + sumTo (e + 1) (fun i => g (n - e - 1 + i)) := by
  have := sumTo_add (n - e - 1) g (e + 1)
  rw [← e2] at this
  exact this
 rw [l, r, Int.add_comm]
theorem sumTo_upd : ∀ {n p : Nat} {f : Nat → Int} {v : Int}, p < n → sumTo n (fun i => if i = p then v else f i) = sumTo n f - f p + v
 | n + 1, p, f, v, hp => by
  rw [sumTo, sumTo]
  by_cases c : n = p
  ·subst c
   rw [if_pos rfl, sumTo_congr (g := f) (fun i hi => by rw [if_neg (by omega)])]
   omega
  ·rw [if_neg c, sumTo_upd (by omega)]
   omega
noncomputable def wl (o : Int → Nat) (f : Nat → Option Int) (i : Nat) : Int := match f i with | some k => (i : Int) - o k | none => 0
theorem sum_put {o : Int → Nat} {N : Nat} : ∀ (d : Nat) {f : Nat → Option Int} {k : Int} {p q : Nat}, q = p + d → q < N → f q = none → (∀ j, p ≤ j → j < q → ∃ y, f j = some y) → sumTo N (wl o (putP f k p q)) = sumTo N (wl o f) + ((q : Int) - o k)
 | 0, f, k, p, q, hd, hq, hn, hf => by
  have : q = p := by omega
  subst this
  have e : ∀ i, i < N → wl o (putP f k q q) i = if i = q then (q : Int) - o k else wl o f i := fun i _ => by
   unfold wl putP
   by_cases c1 : i < q
   ·rw [if_pos c1, if_neg (by omega)]
   by_cases c2 : i = q
   ·rw [if_neg c1, if_pos c2, if_pos c2, c2]
   ·rw [if_neg c1, if_neg c2, if_neg (by omega), if_neg c2]
  rw [sumTo_congr e, sumTo_upd hq]
  have z : wl o f q = 0 := by unfold wl; rw [hn]
  omega
 | d + 1, f, k, p, q, hd, hq, hn, hf => by
  obtain ⟨k', hk'⟩ := hf p (Nat.le_refl _) (by omega)
  have e : putP f k p q = putP (fun i => if i = p then some k else f i) k' (p + 1) q := by
   funext i
   unfold putP
   by_cases c1 : i < p
   ·rw [if_pos c1, if_pos (by omega)]; exact (if_neg (by omega)).symm
   by_cases c2 : i = p
   ·rw [if_neg c1, if_pos c2, if_pos (by omega)]; exact (if_pos c2).symm
   by_cases c3 : i = p + 1
   ·rw [if_neg c1, if_neg c2, if_pos (by omega), if_neg (by omega), if_pos c3, c3, Nat.add_sub_cancel]; exact hk'
   by_cases c4 : i ≤ q
   ·rw [if_neg c1, if_neg c2, if_pos c4, if_neg (by omega), if_neg c3, if_pos c4]; exact (if_neg (by omega)).symm
   ·rw [if_neg c1, if_neg c2, if_neg c4, if_neg (by omega), if_neg c3, if_neg c4]; exact (if_neg (by omega)).symm
  rw [e, sum_put d (k := k') (p := p + 1) (q := q) (by omega) hq (by rw [if_neg (by omega)]; exact hn) (fun j h1 h2 => by rw [if_neg (by omega)]; exact hf j (by omega) h2)]
  have e2 : ∀ i, i < N → wl o (fun i => if i = p then some k else f i) i = if i = p then (p : Int) - o k else wl o f i := fun i _ => by
   unfold wl
   by_cases c : i = p
   ·subst c; simp
   ·simp only [if_neg c]
  rw [sumTo_congr e2, sumTo_upd (by omega)]
  have z : wl o f p = (p : Int) - o k' := by unfold wl; rw [hk']
  omega
structure FirstE (n : Nat) (F : Nat → Option Int) (s q : Nat) : Prop where
 lt : q < n
 no : F q = none
 all : ∀ j, j < n → dist n s j < dist n s q → ∃ y, F j = some y
theorem dist_is {n s a : Nat} (hs : s < n) : s + dist n s a = a ∨ (a < s ∧ s + dist n s a = a + n) := by
 unfold dist
 by_cases c : s ≤ a
 ·rw [if_pos c]; exact .inl (Nat.add_sub_cancel' c)
 ·rw [if_neg c]; exact .inr ⟨Nat.lt_of_not_le c, Nat.add_sub_cancel' (Nat.le_trans (Nat.le_of_lt hs) (Nat.le_add_left _ _))⟩
theorem dist_inj {n s a b : Nat} (hs : s < n) (ha : a < n) (hb : b < n) (h : dist n s a = dist n s b) : a = b := by
 have h1 := dist_is (a := a) hs
 have h2 := dist_is (a := b) hs
 rw [h] at h1
 clear hs h
 generalize dist n s b = d at h1 h2
 rcases h1 with h1 | ⟨_, h1⟩ <;> rcases h2 with h2 | ⟨_, h2⟩
 ·exact h1.symm.trans h2
 ·omega
 ·omega
 ·exact Nat.add_right_cancel (h1.symm.trans h2)
theorem FirstE.one {n : Nat} {F G : Nat → Option Int} {s q q' : Nat} (hs : s < n) (A : FirstE n F s q) (B : FirstE n G s q') (hFG : ∀ i, i < n → (F i = none ↔ G i = none)) : q = q' := by
 by_cases c : dist n s q < dist n s q'
 ·obtain ⟨y, hy⟩ := B.all q A.lt c
  rw [(hFG q A.lt).mp A.no] at hy; cases hy
 by_cases c' : dist n s q' < dist n s q
 ·obtain ⟨y, hy⟩ := A.all q' B.lt c'
  rw [(hFG q' B.lt).mpr B.no] at hy; cases hy
 exact dist_inj hs A.lt B.lt (by omega)
theorem dist_off {n e s j : Nat} (he : e < n) (hs : s < n) (hj : j < n) (h : off n e s ≤ off n e j) : dist n s j = off n e j - off n e s := by
 have := dist_rho he (off_lt he hs) (off_lt he hj)
 rw [rho_off he hs, rho_off he hj, if_pos h] at this
 exact this
theorem dist_off' {n e s j : Nat} (he : e < n) (hs : s < n) (hj : j < n) (h : off n e j < off n e s) : dist n s j = off n e j + n - off n e s := by
 have := dist_rho he (off_lt he hs) (off_lt he hj)
 rw [rho_off he hs, rho_off he hj, if_neg (by omega)] at this
 exact this
theorem FirstE.of {n e : Nat} {F : Nat → Option Int} {s q : Nat} (he : e < n) (hs : s < n) (h1 : off n e s ≤ q) (h2 : q < n) (h3 : lin n e F q = none) (h4 : ∀ j, off n e s ≤ j → j < q → ∃ y, lin n e F j = some y) : FirstE n F s (rho n e q) := by
 refine ⟨rho_lt he h2, by rw [← lin_at (e := e) (F := F) h2]; exact h3, fun j hj hd => ?_⟩
 have d1 := dist_off he hs (rho_lt he h2) (by rw [off_rho he h2]; exact h1)
 rw [off_rho he h2] at d1
 have hs' := off_lt he hs
 by_cases c : off n e s ≤ off n e j
 ·have d2 := dist_off he hs hj c
  obtain ⟨y, hy⟩ := h4 (off n e j) c (by omega)
  rw [lin_at (off_lt he hj), rho_off he hj] at hy
  exact ⟨y, hy⟩
 ·have d2 := dist_off' he hs hj (by omega)
  have := off_lt he hj
  omega
noncomputable def ways (n : Nat) (h : Int → Nat) (F : Nat → Option Int) : Int := sumTo n fun i => match F i with | some k => (dist n (h k) i : Int) | none => 0
theorem ways_lin {n e : Nat} {h : Int → Nat} {F : Nat → Option Int} (he : e < n) (hh : ∀ k, h k < n) (L : Lin (fun k => off n e (h k)) (lin n e F)) : ways n h F = sumTo n (wl (fun k => off n e (h k)) (lin n e F)) := by
 rw [← sumTo_rot he]
 refine sumTo_congr fun i hi => ?_
 unfold wl
 have q : lin n e F (off n e i) = F i := by rw [lin_at (off_lt he hi), rho_off he hi]
 rw [q]
 cases c : F i with
 | none => rfl
 | some k =>
  have l := L.le (off n e i) k (by rw [q]; exact c)
  show ((dist n (h k) i : Nat) : Int) = (off n e i : Int) - (off n e (h k) : Int)
  have l' : off n e (h k) ≤ off n e i := l
  rw [dist_off he (hh k) hi l']
  omega
theorem ways_set {n : Nat} {h : Int → Nat} {F : Nat → Option Int} {q : Nat} {k : Int} (hq : q < n) (hn : F q = none) : ways n h (fun i => if i = q then some k else F i) = ways n h F + dist n (h k) q := by
 unfold ways
 have e : ∀ i, i < n → (match (if i = q then some k else F i) with | some k => (dist n (h k) i : Int) | none => 0) = if i = q then (dist n (h k) q : Int) else (match F i with | some k => (dist n (h k) i : Int) | none => 0) := fun i _ => by
  by_cases c : i = q
  ·subst c; simp
  ·simp only [if_neg c]
 rw [sumTo_congr e, sumTo_upd hq]
 simp only [hn]
 omega
noncomputable def ringF (n e : Nat) (f : Nat → Option Int) (i : Nat) : Option Int := f (off n e i)
theorem lin_ring {n e : Nat} {f : Nat → Option Int} (he : e < n) (hf : ∀ i, n ≤ i → f i = none) : lin n e (ringF n e f) = f := by
 funext i
 by_cases c : i < n
 ·rw [lin_at c]; unfold ringF; rw [off_rho he c]
 ·unfold lin; rw [if_neg c, hf i (by omega)]
theorem lin_out {n e : Nat} {F : Nat → Option Int} {i : Nat} (h : n ≤ i) : lin n e F i = none := by unfold lin; rw [if_neg (by omega)]
section
variable {n e : Nat} {h : Int → Nat} {F : Nat → Option Int} {k : Int} {p q : Nat}
theorem put_out (hpq : p ≤ q) (hq : q < n) : ∀ i, n ≤ i → putP (lin n e F) k p q i = none := fun i hi => by
 unfold putP
 rw [if_neg (by omega), if_neg (by omega), if_neg (by omega), lin_out hi]
theorem drop_out {r : Nat} (hr : r < n) : ∀ i, n ≤ i → dropF (lin n e F) p r i = none := fun i hi => by
 unfold dropF
 by_cases c1 : i < p
 ·rw [if_pos c1, lin_out hi]
 ·rw [if_neg c1, if_neg (by omega), if_neg (by omega), lin_out hi]
theorem ring_put (L : IsLay n h F) (he : e < n) (hF : F e = none) (hh : ∀ k, h k < n) (hk : ¬ hasR n F k) (h1 : off n e (h k) ≤ p) (h2 : ∀ j, off n e (h k) ≤ j → j < p → ∃ y, lin n e F j = some y ∧ lt (fun k => off n e (h k)) y k)
  (h3 : ∀ y, lin n e F p = some y → ¬ lt (fun k => off n e (h k)) y k) (h4 : p ≤ q) (h5 : ∀ j, p ≤ j → j < q → ∃ y, lin n e F j = some y) (h6 : lin n e F q = none) (h7 : q < n) :
  IsLay n h (ringF n e (putP (lin n e F) k p q)) ∧ (∀ x, hasR n (ringF n e (putP (lin n e F) k p q)) x ↔ x = k ∨ hasR n F x) ∧ FirstE n F (h k) (rho n e q) ∧
   (∀ i, i < n → (ringF n e (putP (lin n e F) k p q) i = none ↔ F i = none ∧ i ≠ rho n e q)) ∧ ways n h (ringF n e (putP (lin n e F) k p q)) = ways n h F + dist n (h k) (rho n e q) := by
 have LL := L.lin he hF hh
 have hk' : ¬ has (lin n e F) k := fun z => hk ((has_lin he k).mp z)
 have LP := LL.put hk' h1 h2 h3 h4 h5 h6
 have e0 := lin_ring (f := putP (lin n e F) k p q) he (put_out h4 h7)
 have LP' : Lin (fun k => off n e (h k)) (lin n e (ringF n e (putP (lin n e F) k p q))) := by rw [e0]; exact LP
 have FE : FirstE n F (h k) (rho n e q) := FirstE.of he (hh k) (Nat.le_trans h1 h4) h7 h6 fun j j1 j2 => by
  by_cases c : j < p
  ·obtain ⟨y, hy, _⟩ := h2 j j1 c; exact ⟨y, hy⟩
  ·exact h5 j (by omega) j2
 refine ⟨LP'.ring he hh, fun x => ?_, FE, fun i hi => ?_, ?_⟩
 ·rw [← has_lin he, e0, has_put h4 h6, has_lin he]
 ·have e1 : lin n e F (off n e i) = F i := by rw [lin_at (off_lt he hi), rho_off he hi]
  unfold ringF putP
  have e2 : i = rho n e q ↔ off n e i = q := by
   constructor
   ·intro z; rw [z, off_rho he h7]
   ·intro z; rw [← z, rho_off he hi]
  by_cases c1 : off n e i < p
  ·rw [if_pos c1, e1]
   exact ⟨fun z => ⟨z, fun w => by have := e2.mp w; omega⟩, fun z => z.1⟩
  by_cases c2 : off n e i = p
  ·rw [if_neg c1, if_pos c2]
   refine ⟨(fun z => nomatch z), fun ⟨z, w⟩ => ?_⟩
   by_cases c3 : p = q
   ·exact absurd (e2.mpr (by omega)) w
   ·obtain ⟨y, hy⟩ := h5 p (Nat.le_refl _) (by omega)
    rw [← c2, e1, z] at hy; cases hy
  by_cases c3 : off n e i ≤ q
  ·rw [if_neg c1, if_neg c2, if_pos c3]
   obtain ⟨y, hy⟩ := h5 (off n e i - 1) (by omega) (by omega)
   rw [hy]
   refine ⟨(fun z => nomatch z), fun ⟨z, w⟩ => ?_⟩
   have c4 : off n e i ≠ q := fun z' => w (e2.mpr z')
   obtain ⟨y', hy'⟩ := h5 (off n e i) (by omega) (by omega)
   rw [e1, z] at hy'; cases hy'
  ·rw [if_neg c1, if_neg c2, if_neg c3, e1]
   exact ⟨fun z => ⟨z, fun w => by have := e2.mp w; omega⟩, fun z => z.1⟩
 ·rw [ways_lin he hh LP', e0, sum_put (q - p) (by omega) h7 h6 h5, ← ways_lin he hh LL, dist_off he (hh k) (rho_lt he h7) (by rw [off_rho he h7]; omega), off_rho he h7]
  omega
theorem ring_drop {r : Nat} (L : IsLay n h F) (he : e < n) (hF : F e = none) (hh : ∀ k, h k < n) (h1 : lin n e F p = some k) (h2 : p ≤ r) (h3 : ∀ j, p < j → j ≤ r → ∃ y, lin n e F j = some y ∧ off n e (h y) < j)
  (h4 : ∀ y, lin n e F (r + 1) = some y → off n e (h y) = r + 1) (h5 : r < n) :
  IsLay n h (ringF n e (dropF (lin n e F) p r)) ∧ (∀ x, hasR n (ringF n e (dropF (lin n e F) p r)) x ↔ x ≠ k ∧ hasR n F x) ∧ ringF n e (dropF (lin n e F) p r) e = none := by
 have LL := L.lin he hF hh
 have LP := LL.drop h1 h2 h3 h4
 have e0 := lin_ring (f := dropF (lin n e F) p r) he (drop_out h5)
 have LP' : Lin (fun k => off n e (h k)) (lin n e (ringF n e (dropF (lin n e F) p r))) := by rw [e0]; exact LP
 refine ⟨LP'.ring he hh, fun x => ?_, ?_⟩
 ·rw [← has_lin he, e0, has_drop LL h1 h2, has_lin he]
 ·unfold ringF
  rw [off_e he]
  have e1 : lin n e F (n - 1) = none := by rw [lin_at (by omega), rho_last he]; exact hF
  have p1 : p < n - 1 := by
   have := (lin_lt h1).1
   have : p ≠ n - 1 := fun z => by rw [z, e1] at h1; cases h1
   omega
  have r1 : r < n - 1 := by
   by_cases c : r = p
   ·omega
   ·obtain ⟨y, hy, _⟩ := h3 r (by omega) (Nat.le_refl _)
    have : r ≠ n - 1 := fun z => by rw [z, e1] at hy; cases hy
    omega
  unfold dropF
  rw [if_neg (by omega), if_neg (by omega), if_neg (by omega)]
  exact e1
end
end Ly
namespace SC
open PySem L2 PyProof.Rows Ly
theorem home_range {r : Rl} (ok : r.Ok) {n : Nat} (hn : 0 < n) (k : Int) : 0 ≤ r.home k n ∧ r.home k n < n := by
 have hn' : (0 : Int) < n := by omega
 cases r with
 | times a b => exact ⟨Int.emod_nonneg _ (by omega), Int.emod_lt_of_pos _ hn'⟩
 | high a b =>
  have hp : (0 : Int) < 2 ^ b.toNat := Int.pow_pos (by decide)
  have h0 := Int.emod_nonneg (a * k) (b := 2 ^ b.toNat) (by omega)
  have h1 := Int.emod_lt_of_pos (a * k) hp
  show 0 ≤ a * k % 2 ^ b.toNat * n / 2 ^ b.toNat ∧ a * k % 2 ^ b.toNat * n / 2 ^ b.toNat < n
  generalize a * k % 2 ^ b.toNat = x at h0 h1
  refine ⟨Int.ediv_nonneg (Int.mul_nonneg h0 (by omega)) (by omega), ?_⟩
  refine Int.ediv_lt_of_lt_mul hp ?_
  rw [Int.mul_comm (n : Int)]
  exact Int.mul_lt_mul_of_pos_right h1 hn'
 | told ns => exact ⟨Int.emod_nonneg _ (by omega), Int.emod_lt_of_pos _ hn'⟩
noncomputable def hm (r : Rl) (n : Nat) (k : Int) : Nat := (r.home k n).toNat
theorem hm_eq {r : Rl} (ok : r.Ok) {n : Nat} (hn : 0 < n) (k : Int) : r.home k n = (hm r n k : Int) := by have := home_range ok hn k; unfold hm; omega
theorem hm_lt {r : Rl} (ok : r.Ok) {n : Nat} (hn : 0 < n) (k : Int) : hm r n k < n := by have := home_range ok hn k; unfold hm; omega
noncomputable def toV : Option Int → V
 | none => .non
 | some k => .int k
noncomputable def ringL (n : Nat) (F : Nat → Option Int) : List V := (List.range n).map fun i => toV (F i)
theorem ringL_len (n : Nat) (F : Nat → Option Int) : (ringL n F).length = n := by unfold ringL; rw [List.length_map, List.length_range]
theorem ringL_at {n i : Nat} {F : Nat → Option Int} (h : i < n) : (ringL n F)[i]? = some (toV (F i)) := by
 unfold ringL
 rw [List.getElem?_map, List.getElem?_range h]
 rfl
theorem ringL_congr {n : Nat} {F G : Nat → Option Int} (h : ∀ i, i < n → F i = G i) : ringL n F = ringL n G := by
 unfold ringL
 refine List.map_congr_left fun i hi => ?_
 rw [h i (List.mem_range.mp hi)]
theorem ringL_set {n p : Nat} {F : Nat → Option Int} {v : Option Int} (h : p < n) : (ringL n F).set p (toV v) = ringL n (fun i => if i = p then v else F i) := by
 refine List.ext_getElem? fun d => ?_
 by_cases hd : d < n
 ·rw [ringL_at hd]
  by_cases c : p = d
  ·subst c
   rw [List.getElem?_set_self (by rw [ringL_len]; exact h), if_pos rfl]
  ·rw [List.getElem?_set_ne c, ringL_at hd, if_neg (Ne.symm c)]
 ·rw [List.getElem?_eq_none (by rw [List.length_set, ringL_len]; omega), List.getElem?_eq_none (by rw [ringL_len]; omega)]
theorem ringL_flat (n : Nat) (F : Nat → Option Int) : (ringL n F).all flatV = true := by
 unfold ringL
 rw [List.all_map]
 refine List.all_eq_true.mpr fun i _ => ?_
 show flatV (toV (F i)) = true
 cases F i <;> rfl
theorem way_dist {n a p : Nat} (ha : a < n) (hp : p < n) : ((p : Int) - (a : Int)) % (n : Int) = (dist n a p : Int) := by
 unfold dist
 by_cases c : a ≤ p
 ·rw [if_pos c, Int.emod_eq_of_lt (by omega) (by omega)]; omega
 ·rw [if_neg c]
  have e : (p : Int) - (a : Int) = ((p + n - a : Nat) : Int) - (n : Int) := by omega
  rw [e, Int.sub_emod, Int.emod_self, Int.sub_zero, Int.emod_emod_of_dvd _ (Int.dvd_refl _)]
  exact Int.emod_eq_of_lt (by omega) (by omega)
theorem nx_int {n p : Nat} (hp : p < n) : ((p : Int) + 1) % (n : Int) = (nx n p : Int) := by
 unfold nx
 by_cases c : p + 1 = n
 ·rw [if_pos c]
  have e : (p : Int) + 1 = (n : Int) := by omega
  rw [e, Int.emod_self]; rfl
 ·rw [if_neg c, Int.emod_eq_of_lt (by omega) (by omega)]; rfl
noncomputable def aheadB (n : Nat) (h : Int → Nat) (a b : Int) (p : Nat) : Bool := decide (dist n (h b) p < dist n (h a) p) || (decide (dist n (h a) p = dist n (h b) p) && decide (a < b))
structure RowOk (r : Rl) (n : Nat) (F : Nat → Option Int) : Prop where
 lay : IsLay n (hm r n) F
 keys : ∀ i k, i < n → F i = some k → 0 ≤ k ∧ k ≤ 999999
 e : ∃ e, e < n ∧ F e = none
noncomputable def RlIn (H : Hp) (v : V) (r : Rl) (n : Nat) : Prop := RlAt H v r ∧ r.Ok ∧ 2 ≤ n ∧ n ≤ 2000
noncomputable def spWayOf : Sp := fun vs H Q _ => ∃ (v : V) (r : Rl) (n p : Nat) (k : Int), vs = [v, .int k, .int p, .int n] ∧ RlIn H v r n ∧ (0 ≤ k ∧ k ≤ 999999) ∧ p < n ∧ Q (.int (dist n (hm r n k) p)) H
noncomputable def spAhead : Sp := fun vs H Q _ => ∃ (v : V) (r : Rl) (n p : Nat) (a b : Int), vs = [v, .int a, .int b, .int p, .int n] ∧ RlIn H v r n ∧ (0 ≤ a ∧ a ≤ 999999) ∧ (0 ≤ b ∧ b ≤ 999999) ∧ p < n ∧ Q (.bl (aheadB n (hm r n) a b p)) H
noncomputable def spLook : Sp := fun vs H Q _ => ∃ (v : V) (L : Addr) (r : Rl) (n e : Nat) (F : Nat → Option Int) (k : Int), vs = [v, .ref L, .int k] ∧ RlIn H v r n ∧ H L = some (.lst (ringL n F)) ∧ RowOk r n F ∧ e < n ∧ F e = none ∧ (0 ≤ k ∧ k ≤ 999999) ∧
 ∀ p, off n e (hm r n k) ≤ p → p < n → (∀ j, off n e (hm r n k) ≤ j → j < p → ∃ y, lin n e F j = some y ∧ lt (fun k => off n e (hm r n k)) y k) → (∀ y, lin n e F p = some y → ¬ lt (fun k => off n e (hm r n k)) y k) → Q (.int (rho n e p : Nat)) H
noncomputable def spStands : Sp := fun vs H Q _ => ∃ (v : V) (L : Addr) (r : Rl) (n : Nat) (F : Nat → Option Int) (k : Int), vs = [v, .ref L, .int k] ∧ RlIn H v r n ∧ H L = some (.lst (ringL n F)) ∧ RowOk r n F ∧ (0 ≤ k ∧ k ≤ 999999) ∧ ((hasR n F k → Q (.bl true) H) ∧ (¬ hasR n F k → Q (.bl false) H))
noncomputable def freeN (n : Nat) (F : Nat → Option Int) : Nat := (ringL n F).countP fun z => eqV z .non
noncomputable def spFull : Sp := fun vs H Q _ => ∃ (L : Addr) (n : Nat) (F : Nat → Option Int), vs = [.ref L] ∧ H L = some (.lst (ringL n F)) ∧ Q (.bl (decide (freeN n F ≤ 1))) H
structure PutOk (r : Rl) (n : Nat) (F : Nat → Option Int) (k : Int) (F' : Nat → Option Int) (q : Nat) : Prop where
 ok : RowOk r n F'
 has : ∀ x, hasR n F' x ↔ x = k ∨ hasR n F x
 fst : FirstE n F (hm r n k) q
 none_ : ∀ i, i < n → (F' i = none ↔ F i = none ∧ i ≠ q)
 ways : ways n (hm r n) F' = Ly.ways n (hm r n) F + dist n (hm r n k) q
noncomputable def spSettle : Sp := fun vs H Q _ => ∃ (v : V) (L : Addr) (r : Rl) (n : Nat) (F : Nat → Option Int) (k : Int), vs = [v, .ref L, .int k] ∧ RlIn H v r n ∧ H L = some (.lst (ringL n F)) ∧ RowOk r n F ∧ (0 ≤ k ∧ k ≤ 999999) ∧ ¬ hasR n F k ∧ 1 < freeN n F ∧
 ∀ F' q, PutOk r n F k F' q → Q .non (upd H L (.lst (ringL n F')))
theorem free_two {n : Nat} {F : Nat → Option Int} (h : 1 < freeN n F) (q : Nat) : ∃ e, e < n ∧ F e = none ∧ e ≠ q := by
 refine Classical.byContradiction fun c => ?_
 have all : ∀ i, i < n → F i = none → i = q := fun i hi hF => Classical.byContradiction fun z => c ⟨i, hi, hF, z⟩
 have key : ∀ m, m ≤ n → ((List.range m).map fun i => toV (F i)).countP (fun z => eqV z .non) ≤ if q < m then 1 else 0 := by
  intro m
  induction m with
  | zero => intro _; simp
  | succ m ih =>
   intro hm
   have i1 := ih (by omega)
   rw [List.range_succ, List.map_append, List.countP_append]
   simp only [List.map_cons, List.map_nil, List.countP_cons, List.countP_nil, Nat.zero_add]
   cases hF : F m with
   | none =>
    have := all m (by omega) hF
    subst this
    rw [if_neg (Nat.lt_irrefl _)] at i1
    rw [if_pos (Nat.lt_succ_self _)]
    have : ((List.range m).map fun i => toV (F i)).countP (fun z => eqV z .non) = 0 := by omega
    rw [this]
    split <;> omega
   | some k =>
    have e : (eqV (toV (some k)) .non) = false := rfl
    rw [e, if_neg Bool.false_ne_true]
    split at i1 <;> split <;> omega
 have := key n (Nat.le_refl _)
 unfold freeN ringL at h
 split at this <;> omega
theorem first_none (f : Nat → Option Int) : ∀ (d a N : Nat), N = a + d → f N = none → ∃ q, a ≤ q ∧ q ≤ N ∧ f q = none ∧ ∀ j, a ≤ j → j < q → ∃ y, f j = some y
  | 0, a, N, h, hN => ⟨a, Nat.le_refl _, by omega, by have : N = a := by omega
                                                      rw [← this]; exact hN, fun j h1 h2 => by omega⟩
  | d + 1, a, N, h, hN => by
    cases e : f a with
    | none => exact ⟨a, Nat.le_refl _, by omega, e, fun j h1 h2 => by omega⟩
    | some k =>
      obtain ⟨q, h1, h2, h3, h4⟩ := first_none f d (a + 1) N (by omega) hN
      refine ⟨q, by omega, h2, h3, fun j j1 j2 => ?_⟩
      by_cases c : j = a
      · rw [c]; exact ⟨k, e⟩
      · exact h4 j (by omega) j2
theorem first_ex {n e s : Nat} {F : Nat → Option Int} (he : e < n) (hF : F e = none) (hs : s < n) : ∃ q, FirstE n F s q := by
 have hl : lin n e F (n - 1) = none := by rw [lin_at (by omega), rho_last he]; exact hF
 have := off_lt he hs
 obtain ⟨q, h1, h2, h3, h4⟩ := first_none (lin n e F) (n - 1 - off n e s) (off n e s) (n - 1) (by omega) hl
 exact ⟨_, FirstE.of he hs h1 (by omega) h3 h4⟩
theorem ahead_lt {n e : Nat} {h : Int → Nat} {a b : Int} {j : Nat} (he : e < n) (hh : ∀ k, h k < n) (hj : j < n) (ha : off n e (h a) ≤ j) (hb : off n e (h b) ≤ j) : aheadB n h a b (rho n e j) = true ↔ lt (fun k => off n e (h k)) a b := by
 have d1 := dist_off he (hh a) (rho_lt he hj) (by rw [off_rho he hj]; exact ha)
 have d2 := dist_off he (hh b) (rho_lt he hj) (by rw [off_rho he hj]; exact hb)
 rw [off_rho he hj] at d1 d2
 unfold aheadB lt
 rw [d1, d2, Bool.or_eq_true, Bool.and_eq_true, decide_eq_true_eq, decide_eq_true_eq, decide_eq_true_eq]
 dsimp only
 constructor
 ·rintro (z | z)
  ·exact .inl (by omega)
  ·exact .inr ⟨by omega, z.2⟩
 ·rintro (z | z)
  ·exact .inl (by omega)
  ·exact .inr ⟨by omega, z.2⟩
end SC
namespace SC
open PySem L2 PyProof.Rows Ly
noncomputable def stg (f : Nat → Option Int) (k : Int) (p j i : Nat) : Option Int := if i < p then f i else if i < j then (if i = p then some k else f (i - 1)) else f i
noncomputable def car (f : Nat → Option Int) (k : Int) (p j : Nat) : Option Int := if j = p then some k else f (j - 1)
theorem stg_start (f : Nat → Option Int) (k : Int) (p : Nat) : stg f k p p = f := by
 funext i; unfold stg
 by_cases c : i < p
 ·rw [if_pos c]
 ·rw [if_neg c, if_neg c]
theorem stg_step {f : Nat → Option Int} {k : Int} {p j : Nat} (h : p ≤ j) : (fun i => if i = j then car f k p j else stg f k p j i) = stg f k p (j + 1) := by
 funext i
 show (if i = j then car f k p j else stg f k p j i) = stg f k p (j + 1) i
 unfold stg car
 by_cases c0 : i = j
 ·subst c0
  have h1 : ¬ i < p := by omega
  have h2 : i < i + 1 := by omega
  rw [if_pos rfl, if_neg h1, if_pos h2]
 ·rw [if_neg c0]
  by_cases c1 : i < p
  ·rw [if_pos c1, if_pos c1]
  ·rw [if_neg c1, if_neg c1]
   by_cases c2 : i < j
   ·rw [if_pos c2, if_pos (show i < j + 1 by omega)]
   ·rw [if_neg c2, if_neg (show ¬ i < j + 1 by omega)]
theorem stg_put {f : Nat → Option Int} {k : Int} {p q : Nat} (h : p ≤ q) : stg f k p (q + 1) = putP f k p q := by
 funext i; unfold stg putP
 by_cases c1 : i < p
 ·rw [if_pos c1, if_pos c1]
 ·rw [if_neg c1, if_neg c1]
  by_cases c2 : i = p
  ·rw [if_pos c2, if_pos c2, if_pos (show i < q + 1 by omega)]
  ·rw [if_neg c2, if_neg c2]
   by_cases c3 : i ≤ q
   ·rw [if_pos c3, if_pos (show i < q + 1 by omega)]
   ·rw [if_neg c3, if_neg (show ¬ i < q + 1 by omega)]
theorem stg_at {f : Nat → Option Int} {k : Int} {p j : Nat} (h : p ≤ j) : stg f k p j j = f j := by unfold stg; rw [if_neg (by omega), if_neg (by omega)]
theorem ring_self {n e : Nat} (he : e < n) (F : Nat → Option Int) : ringL n (ringF n e (lin n e F)) = ringL n F := ringL_congr fun i hi => by
 unfold ringF; rw [lin_at (off_lt he hi), rho_off he hi]
theorem ring_set {n e j : Nat} (he : e < n) (hj : j < n) {g : Nat → Option Int} {c : Option Int} : (ringL n (ringF n e g)).set (rho n e j) (toV c) = ringL n (ringF n e fun i => if i = j then c else g i) := by
 rw [ringL_set (rho_lt he hj)]
 refine ringL_congr fun i hi => ?_
 unfold ringF
 have e2 : i = rho n e j ↔ off n e i = j := ⟨fun z => by rw [z, off_rho he hj], fun z => by rw [← z, rho_off he hi]⟩
 by_cases c1 : i = rho n e j
 ·rw [if_pos c1]; exact (if_pos (e2.mp c1)).symm
 ·rw [if_neg c1]; exact (if_neg (fun z => c1 (e2.mpr z))).symm
theorem ring_get {n e j : Nat} (he : e < n) (hj : j < n) {g : Nat → Option Int} : (ringL n (ringF n e g))[rho n e j]? = some (toV (g j)) := by
 rw [ringL_at (rho_lt he hj)]
 unfold ringF
 rw [off_rho he hj]
theorem row_new (r : Rl) {n : Nat} (hn : 0 < n) : RowOk r n (fun _ => none) := ⟨⟨(fun i j k _ _ h => nomatch h), (fun i k _ h => nomatch h)⟩, (fun i k _ h => nomatch h), 0, hn, rfl⟩
end SC
namespace SC
open PySem L2 PyProof.Rows Ly S40
theorem first_stop (P : Nat → Prop) : ∀ (d a : Nat), P (a + d) → ∃ p, a ≤ p ∧ p ≤ a + d ∧ P p ∧ ∀ j, a ≤ j → j < p → ¬ P j
 | 0, a, h => ⟨a, Nat.le_refl _, Nat.le_refl _, h, fun j h1 h2 => by omega⟩
 | d + 1, a, h => by
  by_cases c : P a
  ·exact ⟨a, Nat.le_refl _, by omega, c, fun j h1 h2 => by omega⟩
  ·obtain ⟨p, h1, h2, h3, h4⟩ := first_stop P d (a + 1) (by rw [show a + 1 + d = a + (d + 1) by omega]; exact h)
   refine ⟨p, by omega, by omega, h3, fun j j1 j2 => ?_⟩
   by_cases e : j = a
   ·rw [e]; exact c
   ·exact h4 j (by omega) j2
theorem put_ex {r : Rl} {n : Nat} {F : Nat → Option Int} {k : Int} (rk : r.Ok) (hn : 0 < n) (ok : RowOk r n F) (hk : 0 ≤ k ∧ k ≤ 999999) (hno : ¬ hasR n F k) {e : Nat} {q0 : Nat} (hq0 : FirstE n F (hm r n k) q0) (he : e < n) (hF : F e = none) (hne : e ≠ q0) : ∃ F', PutOk r n F k F' q0 := by
 have hh := hm_lt rk hn
 have ho := off_lt he (hh k)
 have hlast : lin n e F (n - 1) = none := by rw [lin_at (by omega), rho_last he]; exact hF
 obtain ⟨p, p1, p2, p3, p4⟩ := first_stop (fun j => ∀ y, lin n e F j = some y → ¬ Ly.lt (fun k => off n e (hm r n k)) y k) (n - 1 - off n e (hm r n k)) (off n e (hm r n k)) (by
  rw [show off n e (hm r n k) + (n - 1 - off n e (hm r n k)) = n - 1 by omega]
  intro y hy; rw [hlast] at hy; cases hy)
 have p2' : p ≤ n - 1 := by omega
 have p4' : ∀ j, off n e (hm r n k) ≤ j → j < p → ∃ y, lin n e F j = some y ∧ Ly.lt (fun k => off n e (hm r n k)) y k := fun j j1 j2 => by
  refine Classical.byContradiction fun c => p4 j j1 j2 fun y hy hl => c ⟨y, hy, hl⟩
 obtain ⟨q, q1, q2, q3, q4⟩ := first_none (lin n e F) (n - 1 - p) p (n - 1) (by omega) hlast
 obtain ⟨g1, g2, g3, g4, g5⟩ := ring_put ok.lay he hF hh hno p1 p4' p3 q1 q4 q3 (by omega)
 have eq0 : rho n e q = q0 := g3.one (hh k) hq0 (fun _ _ => Iff.rfl)
 rw [eq0] at g3 g4 g5
 refine ⟨_, ⟨g1, fun i y hi hy => ?_, e, he, (g4 e he).mpr ⟨hF, hne⟩⟩, g2, g3, g4, g5⟩
 rcases (g2 y).mp ⟨i, hi, hy⟩ with z | ⟨i', hi', hy'⟩
 ·rw [z]; exact hk
 ·exact ok.keys i' y hi' hy'
noncomputable def asg (l : List (Int × Nat)) : Nat → Option Int := l.foldl (fun G p i => if i = p.2 then some p.1 else G i) (fun _ => none)
theorem asg_snoc (l : List (Int × Nat)) (p : Int × Nat) : asg (l ++ [p]) = fun i => if i = p.2 then some p.1 else asg l i := by unfold asg; rw [List.foldl_append]; rfl
noncomputable def hms (r : Rl) (n : Nat) (ks : List Int) : List Nat := ks.map (hm r n)
noncomputable def plc (r : Rl) (n : Nat) (ks : List Int) : List Nat := fps n [] (hms r n ks)
noncomputable def fcA (r : Rl) (n : Nat) (ks : List Int) : Nat → Option Int := asg (ks.zip (plc r n ks))
theorem plc_len (r : Rl) (n : Nat) (ks : List Int) : (plc r n ks).length = ks.length := by unfold plc hms; rw [fps_len, List.length_map]; simp
theorem plc_snoc (r : Rl) (n : Nat) (ks : List Int) (k : Int) : plc r n (ks ++ [k]) = plc r n ks ++ [(hm r n k + tt n (plc r n ks) (hm r n k)) % n] := by
 unfold plc hms; rw [List.map_append]; exact fps_snoc ..
theorem fcA_snoc (r : Rl) (n : Nat) (ks : List Int) (k : Int) : fcA r n (ks ++ [k]) = fun i => if i = (hm r n k + tt n (plc r n ks) (hm r n k)) % n then some k else fcA r n ks i := by
 unfold fcA
 rw [plc_snoc, List.zip_append (plc_len r n ks).symm]
 exact asg_snoc ..
theorem mod_dist {n a j : Nat} (ha : a < n) (hj : j < n) : j = (a + dist n a j) % n := by
 unfold dist
 by_cases c : a ≤ j
 ·rw [if_pos c, show a + (j - a) = j by omega, Nat.mod_eq_of_lt hj]
 ·rw [if_neg c, show a + (j + n - a) = j + n by omega, Nat.add_mod_right, Nat.mod_eq_of_lt hj]
theorem dist_mod {n a t : Nat} (ha : a < n) (ht : t < n) : dist n a ((a + t) % n) = t := by
 refine dist_of ?_
 by_cases c : a + t < n
 ·exact .inl (Nat.mod_eq_of_lt c).symm
 ·have e0 : (a + t) % n + n = a + t := by
   rw [Nat.mod_eq_sub_mod (Nat.le_of_not_lt c), Nat.mod_eq_of_lt (by omega)]
   exact Nat.sub_add_cancel (Nat.le_of_not_lt c)
  clear c
  exact .inr ⟨by omega, e0.symm⟩
theorem first_tt {n : Nat} {F : Nat → Option Int} {acc : List Nat} {s : Nat} (hs : s < n) (hl : acc.length < n) (h : ∀ i, i < n → (F i = none ↔ i ∉ acc)) : FirstE n F s ((s + tt n acc s) % n) := by
 obtain ⟨t1, t2, t3⟩ := tt_spec (s := n) (p := s) (acc := acc) hs hl
 refine ⟨Nat.mod_lt _ (by omega), (h _ (Nat.mod_lt _ (by omega))).mpr t2, fun j hj hd => ?_⟩
 rw [dist_mod hs (by omega)] at hd
 have hm := t1 _ hd
 rw [← mod_dist hs hj] at hm
 cases e : F j with
 | none => exact absurd hm ((h j hj).mp e)
 | some y => exact ⟨y, rfl⟩
theorem fc_lay {r : Rl} {n : Nat} (rk : r.Ok) (hn : 2 ≤ n) : ∀ (m : Nat) (ks : List Int), ks.length = m → m < n → ks.Nodup → (∀ k ∈ ks, 0 ≤ k ∧ k ≤ 999999) →
  ∃ F, RowOk r n F ∧ (∀ x, hasR n F x ↔ x ∈ ks) ∧ (∀ i, i < n → (F i = none ↔ i ∉ plc r n ks)) ∧ (∀ i, i < n → (fcA r n ks i = none ↔ i ∉ plc r n ks)) ∧ ways n (hm r n) (fcA r n ks) = ways n (hm r n) F ∧ (∀ i k, i < n → fcA r n ks i = some k → k ∈ ks) := by
 intro m
 induction m with
 | zero =>
  intro ks hl _ _ _
  have : ks = [] := List.eq_nil_of_length_eq_zero hl
  subst this
  refine ⟨fun _ => none, row_new r (by omega), (fun x => ⟨(fun ⟨i, _, h⟩ => nomatch h), (fun h => nomatch h)⟩), (fun i _ => ⟨(fun _ h => nomatch h), fun _ => rfl⟩), (fun i _ => ⟨(fun _ h => nomatch h), fun _ => rfl⟩), rfl, (fun i k _ h => nomatch h)⟩
 | succ m ih =>
  intro ks hl hm' nd hb
  obtain ⟨l, k, rfl⟩ : ∃ l k, ks = l ++ [k] := ⟨ks.dropLast, ks.getLast (fun z => by rw [z] at hl; cases hl), (List.dropLast_concat_getLast _).symm⟩
  have hll : l.length = m := by rw [List.length_append] at hl; simp only [List.length_cons, List.length_nil] at hl; omega
  rw [List.nodup_append] at nd
  obtain ⟨nd1, nd2, nd3⟩ := nd
  have hkl : k ∉ l := fun z => nd3 k z k (List.mem_singleton.mpr rfl) rfl
  obtain ⟨F, ok, hF1, hF2, hF3, hF4, hF5⟩ := ih l hll (by omega) nd1 (fun x hx => hb x (List.mem_append_left _ hx))
  have hkb := hb k (List.mem_append_right _ (List.mem_singleton.mpr rfl))
  have hh := hm_lt rk (show 0 < n by omega)
  have hpl : (plc r n l).length = m := by rw [plc_len, hll]
  have FE := first_tt (F := F) (acc := plc r n l) (hh k) (by omega) hF2
  obtain ⟨t1, t2, t3⟩ := tt_spec (s := n) (p := hm r n k) (acc := plc r n l) (hh k) (by omega)
  obtain ⟨e, he, hFe, hne⟩ : ∃ e, e < n ∧ F e = none ∧ e ≠ (hm r n k + tt n (plc r n l) (hm r n k)) % n := by
   refine Classical.byContradiction fun c => ?_
   have hall : ∀ i, i < n → i ≠ (hm r n k + tt n (plc r n l) (hm r n k)) % n → i ∈ plc r n l := fun i hi hne => Classical.byContradiction fun z => c ⟨i, hi, (hF2 i hi).mpr z, hne⟩
   have := len_sub (l := List.range n) (m := (hm r n k + tt n (plc r n l) (hm r n k)) % n :: plc r n l) List.nodup_range fun x hx => by
    by_cases cx : x = (hm r n k + tt n (plc r n l) (hm r n k)) % n
    ·rw [cx]; exact List.mem_cons_self ..
    ·exact List.mem_cons_of_mem _ (hall x (List.mem_range.mp hx) cx)
   rw [List.length_range, List.length_cons] at this
   omega
  obtain ⟨F', po⟩ := put_ex rk (by omega) ok hkb (fun z => hkl ((hF1 k).mp z)) FE he hFe hne
  refine ⟨F', po.ok, fun x => ?_, fun i hi => ?_, fun i hi => ?_, ?_, fun i y hi hy => ?_⟩
  ·rw [po.has, hF1, List.mem_append, List.mem_singleton, Or.comm]
  ·rw [po.none_ i hi, plc_snoc, List.mem_append, List.mem_singleton, hF2 i hi]
   exact ⟨fun ⟨a, b⟩ c => c.elim a b, fun c => ⟨fun z => c (.inl z), fun z => c (.inr z)⟩⟩
  ·rw [fcA_snoc, plc_snoc, List.mem_append, List.mem_singleton]
   by_cases ci : i = (hm r n k + tt n (plc r n l) (hm r n k)) % n
   ·simp [ci]
   ·simp only [if_neg ci]
    rw [hF3 i hi]
    exact ⟨fun a c => c.elim a ci, fun c z => c (.inl z)⟩
  ·rw [fcA_snoc, ways_set (Nat.mod_lt _ (by omega)) ((hF3 _ (Nat.mod_lt _ (by omega))).mpr t2), hF4, po.ways]
  ·rw [fcA_snoc] at hy
   by_cases ci : i = (hm r n k + tt n (plc r n l) (hm r n k)) % n
   ·simp only [if_pos ci, Option.some.injEq] at hy
    rw [← hy]; exact List.mem_append_right _ (List.mem_singleton.mpr rfl)
   ·simp only [if_neg ci] at hy
    exact List.mem_append_left _ (hF5 i y hi hy)
theorem fc_row {r : Rl} {n : Nat} (rk : r.Ok) (hn : 2 ≤ n) {ks : List Int} (hl : ks.length < n) (nd : ks.Nodup) (hb : ∀ k ∈ ks, 0 ≤ k ∧ k ≤ 999999) {F : Nat → Option Int} (ok : RowOk r n F) (hF : ∀ x, hasR n F x ↔ x ∈ ks) :
  (∀ i, i < n → (F i = none ↔ fcA r n ks i = none)) ∧ ways n (hm r n) (fcA r n ks) = ways n (hm r n) F ∧ (∀ i k, i < n → fcA r n ks i = some k → 0 ≤ k ∧ k ≤ 999999) := by
 obtain ⟨F', ok', h1, h2, h3, h4, h5⟩ := fc_lay rk hn ks.length ks rfl hl nd hb
 obtain ⟨e, he, hFe⟩ := ok.e
 obtain ⟨e', he', hFe'⟩ := ok'.e
 have hh := hm_lt rk (show 0 < n by omega)
 have eq := lay_one ok.lay ok'.lay hh (fun k => by rw [h1, hF]) he hFe he' hFe'
 refine ⟨fun i hi => by rw [eq i hi, h2 i hi, h3 i hi], ?_, fun i k hi hk => hb k (h5 i k hi hk)⟩
 rw [h4]
 unfold ways
 exact sumTo_congr fun i hi => by rw [eq i hi]
noncomputable def goodKs (xs : List V) (ks : List Int) : Prop := xs = ks.map V.int ∧ ks.Nodup ∧ ∀ k ∈ ks, 0 ≤ k ∧ k ≤ 999999
noncomputable def spCheckKeys (cK : Addr) : Sp := fun vs H Q E => ∃ (p : Addr) (xs : List V), vs = [.ref p] ∧ H p = some (.lst xs) ∧ (∀ x ∈ xs, ∃ T, Kn H x T ∧ T ≠ .lst ∧ T ≠ .tup) ∧ xs.length ≤ 1000 ∧
 (∀ ks, goodKs xs ks → ∀ H', Same H H' → Q .non H') ∧ ((¬ ∃ ks, goodKs xs ks) → ∀ H', Same H H' → E (.ref cK) none H')
noncomputable def dki (ks : List Int) : List (Key × V) := ks.map fun k => (Sum.inl k, V.bl true)
structure RowAt (C : Addr) (H : Hp) (x L : Addr) (r : Rl) (n : Nat) (F : Nat → Option Int) : Prop where
 obj : ∃ dx v, H x = some (.ins C dx [("rule", v), ("places", .ref L)]) ∧ RlAt H v r
 pl : H L = some (.lst (ringL n F))
 rk : r.Ok
 n2 : 2 ≤ n ∧ n ≤ 2000
 ok : RowOk r n F
noncomputable def SameX (L : Addr) (H H' : Hp) : Prop := ∀ b u, b ≠ L → H b = some u → H' b = some u
noncomputable def spRowNew (C : Addr) (cR cZ : Addr) : Sp := fun vs H Q E => ∃ (x dx : Addr) (v z : V) (T : Ty6), vs = [.ref x, v, z] ∧ H x = some (.ins C dx []) ∧ Plain H v ∧ Kn H z T ∧
 (isRuleV H v = false → ∀ H', Same H H' → E (.ref cR) none H') ∧ (isRuleV H v = true → wholeV z 2 64 = false → ∀ H', Same H H' → E (.ref cZ) none H') ∧
 (∀ r n, RlAt H v r → r.Ok → z = .int (n : Nat) → 2 ≤ n → n ≤ 64 → ∀ L H', H L = none → SameX x H H' → RowAt C H' x L r n (fun _ => none) → Q .non H')
noncomputable def spPut (C : Addr) (cK cF : Addr) : Sp := fun vs H Q E => ∃ (x L : Addr) (r : Rl) (n : Nat) (F : Nat → Option Int) (kv : V) (T : Ty6), vs = [.ref x, kv] ∧ RowAt C H x L r n F ∧ Kn H kv T ∧
 (wholeV kv 0 999999 = false → E (.ref cK) none H) ∧ ∀ k, kv = .int k → (0 ≤ k ∧ k ≤ 999999) → (hasR n F k → Q (.bl false) H) ∧ (¬ hasR n F k → freeN n F ≤ 1 → E (.ref cF) none H) ∧
  (¬ hasR n F k → 1 < freeN n F → ∀ F' q, PutOk r n F k F' q → Q (.bl true) (upd H L (.lst (ringL n F'))))
noncomputable def spLay (C : Addr) : Sp := fun vs H Q _ => ∃ (x L : Addr) (r : Rl) (n : Nat) (F : Nat → Option Int), vs = [.ref x] ∧ RowAt C H x L r n F ∧ ∀ p, H p = none → Q (.ref p) (upd H p (.lst (ringL n F)))
end SC
namespace SC
open PySem L2 PyProof.Rows Ly S40
theorem rep_nil (n : Nat) : (List.replicate n [V.non]).flatten = ringL n (fun _ => none) := by
 unfold ringL
 induction n with
 | zero => rfl
 | succ n ih => rw [List.replicate_succ', List.flatten_append, ih, List.range_succ, List.map_append]; rfl
end SC
namespace SC
open PySem L2 PyProof.Rows Ly S40
noncomputable def spFirstC (cR cZ cK cF : Addr) : Sp := fun vs H Q E => ∃ (v z : V) (Tz : Ty6) (p : Addr) (xs : List V), vs = [v, z, .ref p] ∧ Plain H v ∧ Kn H z Tz ∧ H p = some (.lst xs) ∧ (∀ x ∈ xs, ∃ T, Kn H x T ∧ T ≠ .lst ∧ T ≠ .tup) ∧ xs.length ≤ 1000 ∧
 ∀ H', Same H H' → (isRuleV H v = false → E (.ref cR) none H') ∧ (isRuleV H v = true → wholeV z 2 64 = false → E (.ref cZ) none H') ∧
  (isRuleV H v = true → wholeV z 2 64 = true → (¬ ∃ ks, goodKs xs ks) → E (.ref cK) none H') ∧
  ∀ r n ks, RlAt H v r → r.Ok → z = .int (n : Nat) → 2 ≤ n → n ≤ 64 → goodKs xs ks → (n ≤ ks.length → E (.ref cF) none H') ∧ (ks.length < n → ∀ l, H' l = some (.lst (ringL n (fcA r n ks))) → Q (.ref l) H')
noncomputable def keysR (n : Nat) (F : Nat → Option Int) : Prop := ∀ i k, i < n → F i = some k → 0 ≤ k ∧ k ≤ 999999
noncomputable def spWaysP (cR cZ cK : Addr) : Sp := fun vs H Q E => ∃ (v : V) (p : Addr) (xs : List V), vs = [v, .ref p] ∧ Plain H v ∧ H p = some (.lst xs) ∧ (∀ x ∈ xs, ∃ T, Kn H x T) ∧ xs.length ≤ 1000 ∧
 ∀ H', Same H H' → (isRuleV H v = false → E (.ref cR) none H') ∧ (isRuleV H v = true → wholeV (.int xs.length) 2 64 = false → E (.ref cZ) none H') ∧
  (isRuleV H v = true → wholeV (.int xs.length) 2 64 = true → (∃ x ∈ xs, x ≠ .non ∧ wholeV x 0 999999 = false) → E (.ref cK) none H') ∧
  ∀ r n F, RlAt H v r → r.Ok → 2 ≤ n → n ≤ 64 → xs = ringL n F → keysR n F → Q (.int (ways n (hm r n) F)) H'
end SC
namespace SC
open PySem L2 PyProof.Rows Ly S40
noncomputable def hmV (r : Rl) (n : Nat) : V → V
 | .int k => .int (hm r n k : Nat)
 | _ => .non
theorem hmV_map (r : Rl) (n : Nat) (ks : List Int) : (ks.map V.int).map (hmV r n) = nats (hms r n ks) := by
 unfold nats hms
 rw [List.map_map, List.map_map]
 rfl
theorem ints_at {ks : List Int} {i : Nat} {x : V} (h : (ks.map V.int)[i]? = some x) : ∃ k, ks[i]? = some k ∧ x = .int k := by
 rw [List.getElem?_map] at h
 obtain ⟨k, h1, h2⟩ := Option.map_eq_some_iff.mp h
 exact ⟨k, h1, h2.symm⟩
end SC
namespace SC
open PySem L2 PyProof.Rows Ly S40
noncomputable def ofV : V → Option Int
 | .int k => some k
 | _ => none
noncomputable def okV (x : V) : Prop := x = .non ∨ wholeV x 0 999999 = true
noncomputable def ofL (xs : List V) (i : Nat) : Option Int := ofV (xs.getD i .non)
noncomputable def wayF (r : Rl) (n : Nat) (F : Nat → Option Int) (i : Nat) : Int := match F i with | some k => (dist n (hm r n k) i : Int) | none => 0
end SC
namespace SC
open PySem L2 PyProof.Rows Ly S40
theorem fold_none (i : Nat) : ∀ (l : List (Int × Nat)) (G : Nat → Option Int), (l.foldl (fun G p i => if i = p.2 then some p.1 else G i) G) i = none ↔ G i = none ∧ i ∉ l.map Prod.snd
 | [], G => by simp
 | p :: l, G => by
  rw [List.foldl_cons, fold_none i l]
  by_cases c : i = p.2
  ·simp [c]
  ·simp [c]
theorem asg_none {l : List (Int × Nat)} {i : Nat} : asg l i = none ↔ i ∉ l.map Prod.snd := by
 unfold asg
 rw [fold_none]
 simp
theorem fcA_none {r : Rl} {n : Nat} {ks : List Int} {i : Nat} : fcA r n ks i = none ↔ i ∉ plc r n ks := by
 unfold fcA
 rw [asg_none, List.map_snd_zip]
 rw [plc_len]; exact Nat.le_refl _
theorem in_nats (a : Nat) : ∀ acc : List Nat, inV (.int (a : Nat)) (nats acc) = decide (a ∈ acc)
 | [] => by simp [inV, nats]
 | b :: acc => by
  have ih := in_nats a acc
  unfold inV nats at ih ⊢
  rw [List.map_cons, List.any_cons, ih]
  show (decide ((b : Int) = (a : Int)) || _) = _
  by_cases c : b = a
  ·subst c; simp
  ·have : ¬ ((b : Int) = (a : Int)) := fun e => c (by omega)
   have c' : a ≠ b := fun e => c e.symm
   simp [this, c']
theorem flat_natsL (acc : List Nat) : (nats acc).all flatV = true := by
 unfold nats
 rw [List.all_map]
 exact List.all_eq_true.mpr fun _ _ => rfl
theorem good_nats {acc : List Nat} (nd : acc.Nodup) (hb : ∀ a ∈ acc, a < 1000000) : goodKs (nats acc) (acc.map fun a : Nat => (a : Int)) := by
 refine ⟨?_, ?_, ?_⟩
 ·unfold nats; rw [List.map_map]; rfl
 ·rw [List.nodup_iff_pairwise_ne, List.pairwise_map]
  refine List.Pairwise.imp ?_ (List.nodup_iff_pairwise_ne.mp nd)
  intro a b h e
  exact h (by omega)
 ·intro k hk
  obtain ⟨a, ha, rfl⟩ := List.mem_map.mp hk
  have := hb a ha
  omega
noncomputable def spKeysL : Sp := fun vs H Q _ => ∃ (m : Int) (n : Nat), vs = [.int m, .int n] ∧ n ≤ 1000 ∧ ∀ l xs ks H', Same H H' → H' l = some (.lst xs) → goodKs xs ks → ks.length = n → Q (.ref l) H'
noncomputable def spFirstL : Sp := fun vs H Q _ => ∃ (v : V) (r : Rl) (n : Nat) (p : Addr) (ks : List Int), vs = [v, .int n, .ref p] ∧ RlIn H v r n ∧ H p = some (.lst (ks.map V.int)) ∧ (∀ k ∈ ks, 0 ≤ k ∧ k ≤ 999999) ∧ ks.length < n ∧ ∀ l H', Same H H' → H' l = some (.lst (ringL n (fcA r n ks))) → Q (.ref l) H'
noncomputable def spWaysL : Sp := fun vs H Q _ => ∃ (v : V) (r : Rl) (n : Nat) (p : Addr) (F : Nat → Option Int), vs = [v, .ref p] ∧ RlIn H v r n ∧ H p = some (.lst (ringL n F)) ∧ keysR n F ∧ ∀ H', Same H H' → Q (.int (ways n (hm r n) F)) H'
end SC
namespace SC
open PySem L2 PyProof.Rows Ly S40
noncomputable def spToldF : Sp := fun vs H Q _ => ∃ (v z : V) (Tz : Ty6) (p : Addr) (xs : List V), vs = [v, z, .ref p] ∧ Plain H v ∧ Kn H z Tz ∧ H p = some (.lst xs) ∧ (∀ x ∈ xs, ∃ T, Kn H x T ∧ T ≠ .lst ∧ T ≠ .tup) ∧ xs.length ≤ 1000 ∧
 ∀ H', Same H H' → (isRuleV H v = false → Q (.str (nm 0)) H') ∧ (isRuleV H v = true → wholeV z 2 64 = false → Q (.str (nm 2)) H') ∧
  (isRuleV H v = true → wholeV z 2 64 = true → (¬ ∃ ks, goodKs xs ks) → Q (.str (nm 1)) H') ∧
  ∀ r n ks, RlAt H v r → r.Ok → z = .int (n : Nat) → 2 ≤ n → n ≤ 64 → goodKs xs ks → (n ≤ ks.length → Q (.str (nm 3)) H') ∧ (ks.length < n → ∀ l, H' l = some (.lst (ringL n (fcA r n ks))) → Q (.ref l) H')
noncomputable def spToldW : Sp := fun vs H Q _ => ∃ (v : V) (p : Addr) (xs : List V), vs = [v, .ref p] ∧ Plain H v ∧ H p = some (.lst xs) ∧ (∀ x ∈ xs, ∃ T, Kn H x T) ∧ xs.length ≤ 1000 ∧
 ∀ H', Same H H' → (isRuleV H v = false → Q (.str (nm 0)) H') ∧ (isRuleV H v = true → wholeV (.int xs.length) 2 64 = false → Q (.str (nm 2)) H') ∧
  (isRuleV H v = true → wholeV (.int xs.length) 2 64 = true → (∃ x ∈ xs, x ≠ .non ∧ wholeV x 0 999999 = false) → Q (.str (nm 1)) H') ∧
  ∀ r n F, RlAt H v r → r.Ok → 2 ≤ n → n ≤ 64 → xs = ringL n F → keysR n F → Q (.int (ways n (hm r n) F)) H'
end SC
namespace SC
open PySem L2 PyProof.Rows Ly S40
theorem RlAt.updL {H : Hp} {L : Addr} {xs : List V} {o : HO} {v : V} {r : Rl} (hL : H L = some (.lst xs)) (ra : RlAt H v r) : RlAt (upd H L o) v r := by
 have ne : ∀ p ys, H p = some (.tup ys) → p ≠ L := fun p ys hp w => by rw [w, hL] at hp; cases hp
 cases r with
 | times a b => obtain ⟨p, e, hp⟩ := ra; exact ⟨p, e, by rw [upd_ne (ne p _ hp)]; exact hp⟩
 | high a b => obtain ⟨p, e, hp⟩ := ra; exact ⟨p, e, by rw [upd_ne (ne p _ hp)]; exact hp⟩
 | told ns => obtain ⟨p, q, e, hp, hq⟩ := ra; exact ⟨p, q, e, by rw [upd_ne (ne p _ hp)]; exact hp, by rw [upd_ne (ne q _ hq)]; exact hq⟩
theorem eqVs_refl : ∀ {xs : List V}, xs.all flatV = true → eqVs xs xs = true
 | [], _ => rfl
 | x :: xs, h => by
  rw [List.all_cons, Bool.and_eq_true] at h
  have e : eqV x x = true := by
   cases x with
   | bl b => cases b <;> rfl
   | int i => exact beq_self_eq_true i
   | str s => exact beq_self_eq_true s
   | non => rfl
   | _ => exact absurd h.1 (by simp [flatV])
  show (eqV x x && eqVs xs xs) = true
  rw [e, eqVs_refl h.2]; rfl
noncomputable def isNV (x : V) : V := .bl (decide (x = .non))
theorem ints_flat (ks : List Int) : (ks.map V.int).all flatV = true := by rw [List.all_map]; exact List.all_eq_true.mpr fun _ _ => rfl
noncomputable def oddL : List V := [.int (-1), .int 1000000, .non, .str "a", .bl true]
end SC
namespace SC
open PySem L2 PyProof.Rows Ly S40
section
variable {v z : V} {r : Rl} {n : Nat} {p : Addr} {xs : List V} {ks : List Int} {H : Hp} {Q : VK} {E : XK}
end
end SC
namespace SC
open PySem L2 PyProof.Rows Ly S40
theorem plain_non {H : Hp} : Plain H .non ∧ isRuleV H .non = false := ⟨⟨⟨_, .non⟩, fun xs e => by simp [tupV] at e, fun xs e => by simp [tupV] at e⟩, rfl⟩
end SC
namespace SC
open PySem L2 PyProof.Rows
theorem nilI {σ : L2.St} {H : Hp} {k : List V → Hp → Prop} (h : k [] H) : tNil σ H k := h
end SC
namespace SC
open PySem L2 PyProof.Rows
end SC
namespace SC
open PySem L2 PyProof.Rows Ly S40
noncomputable def InvLook (v : V) (L : Addr) (k : Int) (n e : Nat) (r : Rl) (F : Nat → Option Int) (H : Hp) (m : Nat) (σ : L2.St) (H2 : Hp) : Prop := ∃ j, σ = [some v, some (.ref L), some (.int k), some (.int n), some (.int (rho n e j : Nat))] ∧ H2 = H ∧ off n e (hm r n k) ≤ j ∧ j < n ∧ (∀ u, off n e (hm r n k) ≤ u → u < j → ∃ y, lin n e F u = some y ∧ Ly.lt (fun k => off n e (hm r n k)) y k) ∧ m = n - j
noncomputable def InvSet (v : V) (L : Addr) (k : Int) (n e p : Nat) (F : Nat → Option Int) (H : Hp) (m : Nat) (σ : L2.St) (H2 : Hp) : Prop := ∃ j x, σ = [some v, some (.ref L), some (.int k), some (.int (rho n e j : Nat)), some (toV (car (lin n e F) k p j)), x] ∧ (∀ b, b ≠ L → H2 b = H b) ∧ H2 L = some (.lst (ringL n (ringF n e (stg (lin n e F) k p j)))) ∧ p ≤ j ∧ j < n ∧ (∀ u, p ≤ u → u + 1 < j → ∃ y, lin n e F u = some y) ∧ m = n - j
noncomputable def InvKo (m : Int) (n : Nat) (l : Addr) (H : Hp) (i : Nat) (σ : L2.St) (H2 : Hp) : Prop := ∃ x3 x4 acc, σ = [some (.int m), some (.int n), some (.ref l), x3, x4] ∧ Same H H2 ∧ H2 l = some (.lst (nats acc)) ∧ acc.length = i ∧ acc.Nodup ∧ ∀ a ∈ acc, a < 1000000
noncomputable def InvKi (m : Int) (n : Nat) (l : Addr) (i : Nat) (x t : Nat) (acc : List Nat) (H : Hp) (mm : Nat) (σ : L2.St) (H4 : Hp) : Prop := ∃ u, σ = [some (.int m), some (.int n), some (.ref l), some (.int (0 + (i : Int))), some (.int ((x + u) % 1000000 : Nat))] ∧ H4 l = some (.lst (nats acc)) ∧ Same H H4 ∧ u ≤ t ∧ mm = t - u
end SC
namespace Ly
theorem Lin.incr {o : Int → Nat} {f : Nat → Option Int} (L : Lin o f) {i j : Nat} {y x : Int} (hi : f i = some y) (hj : f j = some x) (hij : i < j) : lt o y x := by
 by_cases c : o x ≤ i
 ·obtain ⟨y', hy', hl⟩ := L.lay j x hj i c hij
  rw [hi] at hy'; cases hy'; exact hl
 ·exact .inl (by have := L.le i y hi; omega)
noncomputable def seqN (f : Nat → Option Int) (m : Nat) : List Int := (List.range m).filterMap f
theorem seqN_succ (f : Nat → Option Int) (m : Nat) : seqN f (m + 1) = seqN f m ++ (f m).toList := by
 unfold seqN
 rw [List.range_succ, List.filterMap_append]
 cases e : f m <;> simp [e]
theorem seqN_mem {f : Nat → Option Int} {m : Nat} {x : Int} : x ∈ seqN f m ↔ ∃ i, i < m ∧ f i = some x := by
 unfold seqN
 rw [List.mem_filterMap]
 simp [List.mem_range]
theorem seqN_pair {o : Int → Nat} {f : Nat → Option Int} (L : Lin o f) : ∀ m, (seqN f m).Pairwise (lt o)
 | 0 => List.Pairwise.nil
 | m + 1 => by
  rw [seqN_succ, List.pairwise_append]
  refine ⟨seqN_pair L m, ?_, fun a ha b hb => ?_⟩
  ·cases f m <;> simp
  ·obtain ⟨i, hi, e⟩ := seqN_mem.mp ha
   have e2 : f m = some b := by cases e2 : f m with
    | none => rw [e2] at hb; simp at hb
    | some c => rw [e2] at hb; simp at hb; rw [hb]
   exact L.incr e e2 hi
theorem sorted_one {o : Int → Nat} : ∀ {l m : List Int}, l.Pairwise (lt o) → m.Pairwise (lt o) → (∀ x, x ∈ l ↔ x ∈ m) → l = m
 | [], [], _, _, _ => rfl
 | [], y :: m, _, _, h => absurd ((h y).mpr (List.mem_cons_self ..)) (by simp)
 | x :: l, [], _, _, h => absurd ((h x).mp (List.mem_cons_self ..)) (by simp)
 | x :: l, y :: m, hl, hm, h => by
  rw [List.pairwise_cons] at hl hm
  have e : x = y := by
   rcases List.mem_cons.mp ((h x).mp (List.mem_cons_self ..)) with a | a
   ·exact a
   ·rcases List.mem_cons.mp ((h y).mpr (List.mem_cons_self ..)) with b | b
    ·exact b.symm
    ·exact (lt_asy (hl.1 y b) (hm.1 x a)).elim
  subst e
  congr 1
  refine sorted_one hl.2 hm.2 fun z => ⟨fun hz => ?_, fun hz => ?_⟩
  ·rcases List.mem_cons.mp ((h z).mp (List.mem_cons_of_mem _ hz)) with a | a
   ·subst a; exact absurd (hl.1 z hz) lt_irr
   ·exact a
  ·rcases List.mem_cons.mp ((h z).mpr (List.mem_cons_of_mem _ hz)) with a | a
   ·subst a; exact absurd (hm.1 z hz) lt_irr
   ·exact a
theorem seq_ord {o : Int → Nat} {f : Nat → Option Int} {m : Nat} {ord : List Int} (L : Lin o f) (hp : ord.Pairwise (lt o)) (hm : ∀ x, x ∈ ord ↔ ∃ i, i < m ∧ f i = some x) : seqN f m = ord :=
 sorted_one (seqN_pair L m) hp fun x => by rw [seqN_mem, hm]
theorem seqN_next {f : Nat → Option Int} {m j : Nat} {k : Int} (hj : j < m) (hk : f j = some k) : (seqN f m)[(seqN f j).length]? = some k ∧ (seqN f m).drop ((seqN f j).length + 1) = (seqN f m).drop (seqN f (j + 1)).length := by
 have key : ∀ d, ∃ t, seqN f (j + 1 + d) = seqN f (j + 1) ++ t := by
  intro d
  induction d with
  | zero => exact ⟨[], by simp⟩
  | succ d ih =>
   obtain ⟨t, e⟩ := ih
   exact ⟨t ++ (f (j + 1 + d)).toList, by rw [← Nat.add_assoc, seqN_succ, e, List.append_assoc]⟩
 obtain ⟨t, e⟩ := key (m - (j + 1))
 rw [show j + 1 + (m - (j + 1)) = m by omega] at e
 have e1 : seqN f (j + 1) = seqN f j ++ [k] := by rw [seqN_succ, hk]; rfl
 refine ⟨?_, by rw [e1, List.length_append]; rfl⟩
 rw [e, e1, List.append_assoc, List.getElem?_append_right (Nat.le_refl _), Nat.sub_self]
 rfl
end Ly
namespace SC
open PySem L2 PyProof.Rows Ly S40
noncomputable def blT (n : Nat) (acc : List Nat) : List V := (List.range n).map fun p => V.bl (S40.mem p acc)
theorem blT_at {n p : Nat} {acc : List Nat} (h : p < n) : (blT n acc)[p]? = some (.bl (S40.mem p acc)) := by unfold blT; rw [List.getElem?_map, List.getElem?_range h]; rfl
theorem blT_len (n : Nat) (acc : List Nat) : (blT n acc).length = n := by unfold blT; rw [List.length_map, List.length_range]
theorem mem_end (p q : Nat) : ∀ acc : List Nat, S40.mem p (acc ++ [q]) = (S40.mem p acc || Nat.beq p q)
 | [] => by simp [S40.mem]
 | r :: acc => by rw [List.cons_append, S40.mem, S40.mem, mem_end p q acc, Bool.or_assoc]
theorem blT_set {n q : Nat} {acc : List Nat} (h : q < n) : (blT n acc).set q (.bl true) = blT n (acc ++ [q]) := by
 refine List.ext_getElem? fun d => ?_
 by_cases hd : d < n
 ·rw [blT_at hd, mem_end]
  by_cases c : q = d
  ·subst c
   rw [List.getElem?_set_self (by rw [blT_len]; exact h), Nat.beq_refl, Bool.or_true]
  ·rw [List.getElem?_set_ne c, blT_at hd]
   have : Nat.beq d q = false := by cases e : Nat.beq d q with
    | false => rfl
    | true => exact absurd (Nat.eq_of_beq_eq_true e).symm c
   rw [this, Bool.or_false]
 ·rw [List.getElem?_eq_none (by rw [List.length_set, blT_len]; omega), List.getElem?_eq_none (by rw [blT_len]; omega)]
theorem rep_bl (n : Nat) : (List.replicate n [V.bl false]).flatten = blT n [] := by
 unfold blT
 induction n with
 | zero => rfl
 | succ n ih => rw [List.replicate_succ', List.flatten_append, ih, List.range_succ, List.map_append]; rfl
theorem blT_flat (n : Nat) (acc : List Nat) : (blT n acc).all flatV = true := by unfold blT; rw [List.all_map]; exact List.all_eq_true.mpr fun _ _ => rfl
noncomputable def spFilled : Sp := fun vs H Q _ => ∃ (p : Addr) (n : Nat) (hs : List Nat), vs = [.ref p, .int n] ∧ H p = some (.lst (nats hs)) ∧ (∀ x ∈ hs, x < n) ∧ hs.length < n ∧ n ≤ 1000 ∧ ∀ l H', Same H H' → H' l = some (.lst (blT n (fps n [] hs))) → Q (.ref l) H'
noncomputable def spLayL : Sp := fun vs H Q _ => ∃ (v : V) (r : Rl) (n : Nat) (p : Addr) (ks : List Int) (F : Nat → Option Int), vs = [v, .int n, .ref p] ∧ RlIn H v r n ∧ n ≤ 64 ∧ H p = some (.lst (ks.map V.int)) ∧ ks.Nodup ∧ (∀ k ∈ ks, 0 ≤ k ∧ k ≤ 999999) ∧ ks.length < n ∧ RowOk r n F ∧ (∀ x, hasR n F x ↔ x ∈ ks) ∧
 ∀ l H', Same H H' → H' l = some (.lst (ringL n F)) → Q (.ref l) H'
end SC
namespace SC
open PySem L2 PyProof.Rows Ly S40
theorem blT_idx {n : Nat} {acc : List Nat} (h : acc.length < n) : ∃ e, e < n ∧ e ∉ acc ∧ (blT n acc).findIdx? (fun z => eqV z (.bl false)) = some e := by
 cases c : (blT n acc).findIdx? (fun z => eqV z (.bl false)) with
 | none =>
  rw [List.findIdx?_eq_none_iff] at c
  have := len_sub (l := List.range n) (m := acc) List.nodup_range fun x hx => by
   rw [List.mem_range] at hx
   have hm := c (.bl (S40.mem x acc)) (List.mem_of_getElem? (blT_at hx))
   cases e : S40.mem x acc with
   | true => exact S40.mem_iff.mp e
   | false => rw [e] at hm; cases hm
  rw [List.length_range] at this
  omega
 | some e =>
  rw [List.findIdx?_eq_some_iff_getElem] at c
  obtain ⟨h1, h2, _⟩ := c
  rw [blT_len] at h1
  refine ⟨e, h1, fun z => ?_, rfl⟩
  have e1 : (blT n acc)[e]'(by rw [blT_len]; exact h1) = .bl (S40.mem e acc) := by
   have := blT_at (acc := acc) h1
   rw [List.getElem?_eq_getElem (by rw [blT_len]; exact h1)] at this
   exact Option.some.inj this
  rw [e1, S40.mem_iff.mpr z] at h2
  cases h2
theorem rho_int {n e j : Nat} (he : e < n) (hj : j < n) : ((((e : Int) + 1) % (n : Int)) + (0 + (j : Int))) % (n : Int) = (rho n e j : Nat) := by
 have e1 : ((e : Int) + 1) % (n : Int) = (((e + 1) % n : Nat) : Int) := rfl
 have e2 : (((e + 1) % n : Nat) : Int) + (0 + (j : Int)) = (((e + 1) % n + j : Nat) : Int) := by omega
 rw [e1, e2, ← Int.natCast_emod, Nat.mod_add_mod]
 congr 1
 unfold rho
 by_cases c : e + 1 + j < n
 ·rw [if_pos c, Nat.mod_eq_of_lt c]
 ·rw [if_neg c, Nat.mod_eq_sub_mod (by omega), Nat.mod_eq_of_lt (by omega)]
theorem off_int {n e p : Nat} (he : e < n) (hp : p < n) : ((p : Int) - ((e : Int) + 1) % (n : Int)) % (n : Int) = (off n e p : Nat) := by
 have e1 : ((e : Int) + 1) % (n : Int) = (((e + 1) % n : Nat) : Int) := rfl
 rw [e1, way_dist (Nat.mod_lt _ (Nat.lt_of_le_of_lt (Nat.zero_le _) he)) hp]
 congr 1
 obtain ⟨_, h⟩ := off_is he hp
 by_cases c : e + 1 < n
 ·rw [Nat.mod_eq_of_lt c]
  refine dist_of ?_
  rcases h with h | h
  ·exact .inl h
  ·exact .inr ⟨by clear he hp; omega, h⟩
 ·have e2 : e + 1 = n := Nat.le_antisymm he (Nat.le_of_not_lt c)
  rw [e2] at h
  rw [e2, Nat.mod_self]
  refine dist_of (.inl ?_)
  rcases h with h | h
  ·exact absurd hp (Nat.not_lt.mpr (h ▸ Nat.le_add_right _ _))
  ·rw [Nat.zero_add]; rw [Nat.add_comm] at h; exact Nat.add_right_cancel h
theorem refs_of {P : Nat → Addr → Prop} : ∀ {ys : List V}, (∀ k v, ys[k]? = some v → ∃ r, v = .ref r ∧ P k r) → ∃ rs : List Addr, ys = rs.map V.ref ∧ ∀ (k : Nat) (r : Addr), rs[k]? = some r → P k r := by
 intro ys
 induction ys generalizing P with
 | nil => intro _; exact ⟨[], rfl, fun k r h => by simp at h⟩
 | cons y ys ih =>
  intro h
  obtain ⟨r, e, hr⟩ := h 0 y rfl
  obtain ⟨rs, e2, h2⟩ := ih (P := fun k r => P (k + 1) r) fun k v hk => h (k + 1) v (by simpa using hk)
  refine ⟨r :: rs, by rw [List.map_cons, ← e, ← e2], fun k r' hk => ?_⟩
  cases k with
  | zero => simp at hk; rw [← hk]; exact hr
  | succ k => exact h2 k r' (by simpa using hk)
theorem ord_of {H : Hp} {o : Int → Nat} {ks : List Int} {rs rs' : List Addr} (nd : ks.Nodup) (hl : rs.length = ks.length) (h : ∀ (k : Nat) (r : Addr), rs[k]? = some r → ∃ x, ks[k]? = some x ∧ H r = some (.tup [.int (o x : Nat), .int x])) (pm : rs'.Perm rs) (pw : rs'.Pairwise fun x y => lexle (prAt H x) (prAt H y)) :
  (∀ x ∈ rs', H x = some (.tup [.int (o (prAt H x).2 : Nat), .int (prAt H x).2])) ∧ (rs'.map fun x => (prAt H x).2).Pairwise (Ly.lt o) ∧ (rs'.map fun x => (prAt H x).2).Perm ks := by
 have h1 : ∀ x ∈ rs, H x = some (.tup [.int (o (prAt H x).2 : Nat), .int (prAt H x).2]) := fun x hx => by
  obtain ⟨k, hk⟩ := List.getElem?_of_mem hx
  obtain ⟨y, _, e⟩ := h k x hk
  have := prAt_of e
  rw [this]; exact e
 have h2 : ∀ x ∈ rs', H x = some (.tup [.int (o (prAt H x).2 : Nat), .int (prAt H x).2]) := fun x hx => h1 x (pm.mem_iff.mp hx)
 have h3 : (rs.map fun x => (prAt H x).2) = ks := by
  refine List.ext_getElem? fun k => ?_
  rw [List.getElem?_map]
  by_cases c : k < rs.length
  ·obtain ⟨y, e1, e2⟩ := h k rs[k] (List.getElem?_eq_getElem c)
   rw [List.getElem?_eq_getElem c, e1]
   show some (prAt H rs[k]).2 = some y
   rw [prAt_of e2]
  ·rw [List.getElem?_eq_none (by omega), List.getElem?_eq_none (by omega)]; rfl
 have h4 : (rs'.map fun x => (prAt H x).2).Perm ks := by
  have := pm.map fun x => (prAt H x).2
  rw [h3] at this; exact this
 refine ⟨h2, ?_, h4⟩
 have nd' : (rs'.map fun x => (prAt H x).2).Nodup := h4.nodup_iff.mpr nd
 rw [List.nodup_iff_pairwise_ne, List.pairwise_map] at nd'
 rw [List.pairwise_map]
 refine (List.Pairwise.and nd' pw).imp_of_mem fun {a b} ha hb ⟨n1, n2⟩ => ?_
 have e1 := prAt_of (h2 a ha)
 have e2 := prAt_of (h2 b hb)
 unfold lexle at n2
 have q1 : (prAt H a).1 = (o (prAt H a).2 : Nat) := by rw [e1]
 have q2 : (prAt H b).1 = (o (prAt H b).2 : Nat) := by rw [e2]
 rw [q1, q2] at n2
 unfold Ly.lt
 omega
end SC
namespace SC
open PySem L2 PyProof.Rows Ly S40
structure LookJ (r : Rl) (n e : Nat) (F : Nat → Option Int) (k : Int) (j : Nat) : Prop where
 lo : off n e (hm r n k) ≤ j
 hi : j < n
 all : ∀ u, off n e (hm r n k) ≤ u → u < j → ∃ y, lin n e F u = some y ∧ Ly.lt (fun k => off n e (hm r n k)) y k
 stop : ∀ y, lin n e F j = some y → ¬ Ly.lt (fun k => off n e (hm r n k)) y k
noncomputable def spRowHas (C cK : Addr) : Sp := fun vs H Q E => ∃ (x L : Addr) (r : Rl) (n : Nat) (F : Nat → Option Int) (kv : V) (T : Ty6), vs = [.ref x, kv] ∧ RowAt C H x L r n F ∧ Kn H kv T ∧
 (wholeV kv 0 999999 = false → E (.ref cK) none H) ∧ ∀ k, kv = .int k → (0 ≤ k ∧ k ≤ 999999) → (hasR n F k → Q (.bl true) H) ∧ (¬ hasR n F k → Q (.bl false) H)
noncomputable def spRowLooks (C cK : Addr) : Sp := fun vs H Q E => ∃ (x L : Addr) (r : Rl) (n : Nat) (F : Nat → Option Int) (kv : V) (T : Ty6), vs = [.ref x, kv] ∧ RowAt C H x L r n F ∧ Kn H kv T ∧
 (wholeV kv 0 999999 = false → E (.ref cK) none H) ∧ ∀ k, kv = .int k → (0 ≤ k ∧ k ≤ 999999) → ∃ e, e < n ∧ F e = none ∧ ∀ j, LookJ r n e F k j → Q (.int ((j - off n e (hm r n k) + 1 : Nat) : Int)) H
noncomputable def spLooksL : Sp := fun vs H Q _ => ∃ (v : V) (r : Rl) (n : Nat) (p : Addr) (F : Nat → Option Int) (k : Int) (e : Nat), vs = [v, .int n, .ref p, .int k] ∧ RlIn H v r n ∧ H p = some (.lst (ringL n F)) ∧ RowOk r n F ∧ (0 ≤ k ∧ k ≤ 999999) ∧ e < n ∧ F e = none ∧ ∀ j, LookJ r n e F k j → Q (.int ((j - off n e (hm r n k) + 1 : Nat) : Int)) H
theorem dist_look {n e h j : Nat} (he : e < n) (hh : h < n) (h1 : off n e h ≤ j) (h2 : j < n) : dist n h (rho n e j) = j - off n e h := by
 have := dist_rho he (off_lt he hh) h2
 rw [rho_off he hh, if_pos h1] at this
 exact this
end SC
namespace SC
open PySem L2 PyProof.Rows Ly S40
theorem cut_ints (ks : List Int) (j : Nat) (h : j ≤ ks.length) : cutV (ks.map V.int) none (some (j : Int)) = (ks.take j).map V.int := by
 unfold cutV
 have h1 : HT.sIx (ks.map V.int).length 0 none = 0 := by simp [HT.sIx]
 have h2 : HT.sIx (ks.map V.int).length (ks.map V.int).length (some (j : Int)) = j := by
  simp only [HT.sIx]
  rw [if_neg (by omega), List.length_map]
  omega
 rw [h1, h2]
 show ((ks.map V.int).drop 0).take (j - 0) = _
 rw [List.drop_zero, Nat.sub_zero, List.map_take]
end SC
namespace SC
open PySem L2 PyProof.Rows Ly S40
theorem in_ints (a : Int) : ∀ acc : List Int, inV (.int a) (acc.map V.int) = decide (a ∈ acc)
 | [] => by simp [inV]
 | b :: acc => by
  have ih := in_ints a acc
  unfold inV at ih ⊢
  rw [List.map_cons, List.any_cons, ih]
  show (decide (b = a) || _) = _
  by_cases c : b = a
  ·subst c; simp
  ·have c' : a ≠ b := fun e => c e.symm
   simp [c, c']
noncomputable def st22 (a : Addr) (i : Nat) (m : Int) (v : V) (n mn : Nat) (lk x : Addr) (p q r t : Option V) : L2.St := [some (.ref a), some (.int (0 + (i : Int))), some (.int m), some v, some (.int n), some (.int mn), some (.ref lk), some (.ref x), p, q, r, t]
noncomputable def stLk (v : V) (n : Nat) (p : Addr) (k : Int) (a b c d : Option V) : L2.St := [some v, some (.int n), some (.ref p), some (.int k), a, b, c, d]
noncomputable def PassLk (r : Rl) (n e : Nat) (F : Nat → Option Int) (k : Int) (j : Nat) : Prop := ∀ u, off n e (hm r n k) ≤ u → u < j → ∃ y, lin n e F u = some y ∧ Ly.lt (fun k => off n e (hm r n k)) y k
noncomputable def lkN (r : Rl) (n e : Nat) (k : Int) (j : Nat) : V := .int ((j - off n e (hm r n k) + 1 : Nat) : Int)
noncomputable def InvLk (v : V) (n : Nat) (p : Addr) (k : Int) (r : Rl) (e : Nat) (F : Nat → Option Int) (H : Hp) (m : Nat) (σ : L2.St) (H2 : Hp) : Prop := ∃ j x6 x7, σ = stLk v n p k (some (.int (rho n e j : Nat))) (some (lkN r n e k j)) x6 x7 ∧ H2 = H ∧ off n e (hm r n k) ≤ j ∧ j < n ∧ PassLk r n e F k j ∧ m = n - j
noncomputable def st12 (a : Addr) (v1 v2 v3 v4 v5 v6 v7 v8 v9 v10 v11 : Option V) : L2.St := [some (.ref a), v1, v2, v3, v4, v5, v6, v7, v8, v9, v10, v11]
noncomputable def InvO (a : Addr) (H : Hp) (_ : Nat) (σ : L2.St) (H2 : Hp) : Prop := ∃ v1 v2 v3 v4 v5 v6 v7 v8 v9 v10 v11, σ = st12 a v1 v2 v3 v4 v5 v6 v7 v8 v9 v10 v11 ∧ Same H H2
noncomputable def InvPut (mk : Option V → L2.St) (H5 : Hp) (p6 : Addr) (ks : List Int) (C x L : Addr) (r : Rl) (n : Nat) (j : Nat) (σ : L2.St) (H' : Hp) : Prop := ∃ w8 F, σ = mk w8 ∧ Same H5 H' ∧ H' p6 = some (.lst (ks.map V.int)) ∧ RowAt C H' x L r n F ∧ (∀ k, hasR n F k ↔ k ∈ ks.take j) ∧ freeN n F = n - j
noncomputable def InvLoo (mk : Option V → Option V → Option V → L2.St) (H8 : Hp) (p10 : Addr) (ks : List Int) (_ : Nat) (σ : L2.St) (H' : Hp) : Prop := ∃ y8 y10 y11, σ = mk y8 y10 y11 ∧ Same H8 H' ∧ H' p10 = some (.lst (ks.map V.int))
noncomputable def InvLay (mk : Option V → Option V → L2.St) (H2 : Hp) (lo L : Addr) (rs : List Addr) (n e : Nat) (F : Nat → Option Int) (j : Nat) (σ : L2.St) (H' : Hp) : Prop := ∃ x7 x8, σ = mk x7 x8 ∧ Same H2 H' ∧ H' lo = some (.lst ((rs.drop (seqN (lin n e F) j).length).map V.ref)) ∧ H' L = some (.lst (ringL n fun i => if off n e i < j then F i else none))
noncomputable def InvFo (p : Addr) (n : Nat) (L : Addr) (hs : List Nat) (H : Hp) (i : Nat) (σ : L2.St) (H2 : Hp) : Prop := ∃ x3, σ = [some (.ref p), some (.int n), some (.ref L), x3] ∧ Same H H2 ∧ H2 L = some (.lst (blT n (fps n [] (hs.take i))))
noncomputable def InvFi (p : Addr) (n : Nat) (L : Addr) (x t : Nat) (H2 : Hp) (mm : Nat) (σ : L2.St) (H3 : Hp) : Prop := ∃ u, σ = [some (.ref p), some (.int n), some (.ref L), some (.int ((x + u) % n : Nat))] ∧ H3 = H2 ∧ u ≤ t ∧ mm = t - u
end SC
namespace SC
open PySem L2 PyProof.Rows Ly S40
noncomputable def dstg (f : Nat → Option Int) (p j i : Nat) : Option Int := if i < p then f i else if i < j then f (i + 1) else f i
theorem dstg_start (f : Nat → Option Int) (p : Nat) : dstg f p p = f := by
 funext i; unfold dstg
 by_cases c : i < p
 ·rw [if_pos c]
 ·rw [if_neg c, if_neg c]
theorem dstg_at {f : Nat → Option Int} {p j i : Nat} (h : p ≤ j) (hi : j ≤ i) : dstg f p j i = f i := by unfold dstg; rw [if_neg (by omega), if_neg (by omega)]
theorem dstg_step {f : Nat → Option Int} {p j : Nat} (h : p ≤ j) : (fun i => if i = j then f (j + 1) else dstg f p j i) = dstg f p (j + 1) := by
 funext i; unfold dstg
 by_cases c0 : i = j
 ·rw [if_pos c0, if_neg (by omega), if_pos (by omega), c0]
 ·rw [if_neg c0]
  by_cases c1 : i < p
  ·rw [if_pos c1, if_pos c1]
  ·rw [if_neg c1, if_neg c1]
   by_cases c2 : i < j
   ·rw [if_pos c2, if_pos (by omega)]
   ·rw [if_neg c2, if_neg (by omega)]
theorem dstg_drop {f : Nat → Option Int} {p r : Nat} (h : p ≤ r) : (fun i => if i = r then none else dstg f p r i) = dropF f p r := by
 funext i; unfold dstg dropF
 by_cases c0 : i = r
 ·rw [if_pos c0, if_neg (by omega), if_neg (by omega), if_pos c0]
 ·rw [if_neg c0]
  by_cases c1 : i < p
  ·rw [if_pos c1, if_pos c1]
  ·rw [if_neg c1, if_neg c1]
   by_cases c2 : i < r
   ·rw [if_pos c2, if_pos c2]
   ·rw [if_neg c2, if_neg c2, if_neg c0]
theorem RlAt.frame {H H' : Hp} {L : Addr} {xs : List V} {v : V} {r : Rl} (hL : H L = some (.lst xs)) (hf : ∀ b, b ≠ L → H' b = H b) (ra : RlAt H v r) : RlAt H' v r := by
 have go : ∀ p ys, H p = some (.tup ys) → H' p = some (.tup ys) := fun p ys h => by rw [hf p fun z => by rw [z, hL] at h; cases h]; exact h
 cases r with
 | times a b => obtain ⟨p, e, h⟩ := ra; exact ⟨p, e, go _ _ h⟩
 | high a b => obtain ⟨p, e, h⟩ := ra; exact ⟨p, e, go _ _ h⟩
 | told ns => obtain ⟨p, q, e, h, h'⟩ := ra; exact ⟨p, q, e, go _ _ h, go _ _ h'⟩
structure DropOk (r : Rl) (n : Nat) (F : Nat → Option Int) (k : Int) (F' : Nat → Option Int) : Prop where
 ok : RowOk r n F'
 has : ∀ x, hasR n F' x ↔ x ≠ k ∧ hasR n F x
noncomputable def spTakeOut : Sp := fun vs H Q _ => ∃ (v : V) (L : Addr) (r : Rl) (n : Nat) (F : Nat → Option Int) (k : Int), vs = [v, .ref L, .int k] ∧ RlIn H v r n ∧ H L = some (.lst (ringL n F)) ∧ RowOk r n F ∧ (0 ≤ k ∧ k ≤ 999999) ∧ hasR n F k ∧
 ∀ F', DropOk r n F k F' → Q .non (upd H L (.lst (ringL n F')))
noncomputable def stTk (v : V) (L : Addr) (k : Int) (n : Nat) (g b : Nat) : L2.St := [some v, some (.ref L), some (.int k), some (.int n), some (.int (g : Nat)), some (.int (b : Nat))]
noncomputable def InvTk (v : V) (L : Addr) (k : Int) (n e p : Nat) (h : Int → Nat) (F : Nat → Option Int) (H : Hp) (m : Nat) (σ : L2.St) (H2 : Hp) : Prop :=
 ∃ j, σ = stTk v L k n (rho n e j) (rho n e (j + 1)) ∧ (∀ b, b ≠ L → H2 b = H b) ∧ H2 L = some (.lst (ringL n (ringF n e (dstg (lin n e F) p j)))) ∧ p ≤ j ∧ j + 1 < n ∧ (∀ u, p < u → u ≤ j → ∃ y, lin n e F u = some y ∧ off n e (h y) < u) ∧ m = n - j
noncomputable def spDrop (C : Addr) (cK : Addr) : Sp := fun vs H Q E => ∃ (x L : Addr) (r : Rl) (n : Nat) (F : Nat → Option Int) (kv : V) (T : Ty6), vs = [.ref x, kv] ∧ RowAt C H x L r n F ∧ Kn H kv T ∧
 (wholeV kv 0 999999 = false → E (.ref cK) none H) ∧ ∀ k, kv = .int k → (0 ≤ k ∧ k ≤ 999999) → (¬ hasR n F k → Q (.bl false) H) ∧ (hasR n F k → ∀ F', DropOk r n F k F' → Q (.bl true) (upd H L (.lst (ringL n F'))))
theorem ring_filter (F : Nat → Option Int) : ∀ n, ((ringL n F).filter fun x => !decide (x = .non)).map id = (seqN F n).map V.int
 | 0 => rfl
 | n + 1 => by
  have ih := ring_filter F n
  rw [List.map_id] at ih ⊢
  unfold ringL at ih ⊢
  rw [seqN_succ, List.range_succ, List.map_append, List.filter_append, ih, List.map_append]
  congr 1
  show List.filter (fun x => !decide (x = V.non)) [toV (F n)] = _
  cases F n with
  | none => rfl
  | some k => rfl
theorem seqN_nodup {F : Nat → Option Int} : ∀ {n : Nat}, (∀ i j k, i < n → j < n → F i = some k → F j = some k → i = j) → (seqN F n).Nodup
 | 0, _ => List.nodup_nil
 | n + 1, h => by
  rw [seqN_succ, List.nodup_append]
  refine ⟨seqN_nodup fun i j k a b => h i j k (by omega) (by omega), ?_, fun a ha b hb w => ?_⟩
  ·cases F n <;> simp
  ·obtain ⟨i, hi, e⟩ := seqN_mem.mp ha
   have e2 : F n = some b := by cases e2 : F n with
    | none => rw [e2] at hb; simp at hb
    | some c => rw [e2] at hb; simp at hb; rw [hb]
   have := h i n b (by omega) (by omega) (by rw [← w]; exact e) e2
   omega
theorem free_seq (F : Nat → Option Int) : ∀ n, freeN n F + (seqN F n).length = n
 | 0 => rfl
 | n + 1 => by
  have ih := free_seq F n
  unfold freeN ringL at ih ⊢
  rw [seqN_succ, List.range_succ, List.map_append, List.countP_append, List.length_append]
  cases e : F n with
  | none => simp [e, eqV, toV] at ih ⊢; omega
  | some k => simp [e, eqV, toV] at ih ⊢; omega
theorem seq_perm {r : Rl} {n : Nat} {F : Nat → Option Int} {ks : List Int} (ok : RowOk r n F) (nd : ks.Nodup) (h : ∀ x, hasR n F x ↔ x ∈ ks) : (seqN F n).Perm ks :=
 (List.perm_ext_iff_of_nodup (seqN_nodup ok.lay.inj) nd).mpr fun x => by rw [seqN_mem, ← h]; rfl
theorem free_of {r : Rl} {n : Nat} {F : Nat → Option Int} {ks : List Int} (ok : RowOk r n F) (nd : ks.Nodup) (h : ∀ x, hasR n F x ↔ x ∈ ks) : freeN n F + ks.length = n := by
 have := free_seq F n
 rw [(seq_perm ok nd h).length_eq] at this
 exact this
noncomputable def spKeysIn : Sp := fun vs H Q _ => ∃ (L : Addr) (n : Nat) (F : Nat → Option Int), vs = [.ref L] ∧ H L = some (.lst (ringL n F)) ∧ n ≤ 2000 ∧ (seqN F n).length < 64 ∧ ∀ (l : Addr) (ks : List Int) (H' : Hp), Same H H' → H l = none → H' l = some (.lst (ks.map V.int)) → ks.Perm (seqN F n) → ks.Pairwise (· ≤ ·) → Q (.ref l) H'
noncomputable def spAllTold (C : Addr) : Sp := fun vs H Q _ => ∃ (x L : Addr) (r : Rl) (n : Nat) (F : Nat → Option Int), vs = [.ref x] ∧ RowAt C H x L r n F ∧ n ≤ 64 ∧ ∀ (l : Addr) (ks : List Int) (H' : Hp), Same H H' → H l = none → H' l = some (.lst (ks.map V.int)) → ks.Perm (seqN F n) → ks.Pairwise (· ≤ ·) → Q (.ref l) H'
end SC
namespace SC
open PySem L2 PyProof.Rows Ly S40
noncomputable def LayK (n : Nat) (h : Int → Nat) (F : Nat → Option Int) (i : Nat) (k : Int) : Prop := ∀ j, j < n → dist n (h k) j < dist n (h k) i → ∃ y, F j = some y ∧ aheadB n h y k j = true
noncomputable def LayC (n : Nat) (h : Int → Nat) (F : Nat → Option Int) : Prop := ∀ i k, i < n → F i = some k → LayK n h F i k
noncomputable def spLAhead : Sp := fun vs H Q _ => ∃ (v : V) (r : Rl) (n p : Nat) (a b : Int), vs = [v, .int n, .int a, .int b, .int p] ∧ RlIn H v r n ∧ (0 ≤ a ∧ a ≤ 999999) ∧ (0 ≤ b ∧ b ≤ 999999) ∧ p < n ∧ Q (.bl (aheadB n (hm r n) a b p)) H
noncomputable def spIsLay : Sp := fun vs H Q _ => ∃ (v : V) (r : Rl) (n : Nat) (L : Addr) (F : Nat → Option Int), vs = [v, .int n, .ref L] ∧ RlIn H v r n ∧ H L = some (.lst (ringL n F)) ∧ (∀ i k, i < n → F i = some k → 0 ≤ k ∧ k ≤ 999999) ∧
 (LayC n (hm r n) F → ∀ H', Same H H' → Q (.bl true) H') ∧ (¬ LayC n (hm r n) F → ∀ H', Same H H' → Q (.bl false) H')
noncomputable def stIs (v : V) (n : Nat) (L : Addr) (x3 x4 x5 : Option V) : L2.St := [some v, some (.int n), some (.ref L), x3, x4, x5]
noncomputable def InvIsO (v : V) (n : Nat) (L : Addr) (h : Int → Nat) (F : Nat → Option Int) (H : Hp) (i : Nat) (σ : L2.St) (H2 : Hp) : Prop := ∃ x3 x4 x5, σ = stIs v n L x3 x4 x5 ∧ Same H H2 ∧ ∀ i' k, i' < i → F i' = some k → LayK n h F i' k
noncomputable def InvIsI (v : V) (n : Nat) (L : Addr) (h : Int → Nat) (F : Nat → Option Int) (i : Nat) (k : Int) (H1 : Hp) (m : Nat) (σ : L2.St) (H2 : Hp) : Prop := ∃ u, σ = stIs v n L (some (.int i)) (some (.int k)) (some (.int ((h k + u) % n : Nat))) ∧ H2 = H1 ∧ u ≤ dist n (h k) i ∧
 (∀ w, w < u → ∃ y, F ((h k + w) % n) = some y ∧ aheadB n h y k ((h k + w) % n) = true) ∧ m = dist n (h k) i - u
noncomputable def spBuilt (C : Addr) : Sp := fun vs H Q _ => ∃ (v : V) (r : Rl) (n : Nat) (p o : Addr) (ks os : List Int), vs = [v, .int n, .ref p, .ref o] ∧ RlIn H v r n ∧ n ≤ 64 ∧ H p = some (.lst (ks.map V.int)) ∧ H o = some (.lst (os.map V.int)) ∧ ks.Nodup ∧ (∀ k ∈ ks, 0 ≤ k ∧ k ≤ 999999) ∧ (∀ k ∈ os, (0 ≤ k ∧ k ≤ 999999) ∧ k ∉ ks) ∧ ks.length < n ∧
 ∀ x L F H', Same H H' → RowAt C H' x L r n F → (∀ k, hasR n F k ↔ k ∈ ks) → Q (.ref x) H'
noncomputable def stBu (v : V) (n : Nat) (p o x : Addr) (x5 x6 x7 : Option V) : L2.St := [some v, some (.int n), some (.ref p), some (.ref o), some (.ref x), x5, x6, x7]
noncomputable def InvBu (v : V) (n : Nat) (p o x L : Addr) (C : Addr) (r : Rl) (ks : List Int) (H : Hp) (j : Nat) (σ : L2.St) (H' : Hp) : Prop := ∃ x5 x6 x7 F, σ = stBu v n p o x x5 x6 x7 ∧ Same H H' ∧ RowAt C H' x L r n F ∧ (∀ k, hasR n F k ↔ k ∈ ks.take j)
theorem row_one {r : Rl} {n : Nat} {F G : Nat → Option Int} {ks : List Int} (rk : r.Ok) (n2 : 2 ≤ n) (a : RowOk r n F) (b : RowOk r n G) (hF : ∀ k, hasR n F k ↔ k ∈ ks) (hG : ∀ k, hasR n G k ↔ k ∈ ks) : ringL n G = ringL n F := by
 obtain ⟨e, he, hFe⟩ := a.e
 obtain ⟨e', he', hGe⟩ := b.e
 exact ringL_congr fun i hi => (lay_one a.lay b.lay (hm_lt rk (by omega)) (fun k => by rw [hG, hF]) he hFe he' hGe i hi).symm
noncomputable def swF (F : Nat → Option Int) (i j : Nat) (u : Nat) : Option Int := if u = j then F i else if u = i then F j else F u
noncomputable def swp (i j u : Nat) : Nat := if u = j then i else if u = i then j else u
noncomputable def st16 (a : Addr) (v1 v2 v3 v4 v5 v6 v7 v8 v9 v10 v11 v12 v13 v14 v15 : Option V) : L2.St := [some (.ref a), v1, v2, v3, v4, v5, v6, v7, v8, v9, v10, v11, v12, v13, v14, v15]
noncomputable def InvO16 (a : Addr) (H : Hp) (_ : Nat) (σ : L2.St) (H2 : Hp) : Prop := ∃ v1 v2 v3 v4 v5 v6 v7 v8 v9 v10 v11 v12 v13 v14 v15, σ = st16 a v1 v2 v3 v4 v5 v6 v7 v8 v9 v10 v11 v12 v13 v14 v15 ∧ Same H H2
noncomputable def at_ (n : Nat) (F : Nat → Option Int) (k : Int) : Nat := (ringL n F).findIdx fun z => eqV z (.int k)
end SC
namespace SC
open PySem L2 PyProof.Rows Ly S40
noncomputable def st20 (a : Addr) (i : Nat) (m : Int) (v : V) (n mn : Nat) (lk kh ot : Addr) (v9 v10 v11 v12 v13 v14 v15 : Option V) : L2.St := st16 a (some (.int (0 + (i : Int)))) (some (.int m)) (some v) (some (.int n)) (some (.int mn)) (some (.ref lk)) (some (.ref kh)) (some (.ref ot)) v9 v10 v11 v12 v13 v14 v15
noncomputable def InvOrd (mk : Option V → Option V → L2.St) (H : Hp) (_ : Nat) (σ : L2.St) (H' : Hp) : Prop := ∃ v11 v12, σ = mk v11 v12 ∧ Same H H'
noncomputable def ixV (n : Nat) (F : Nat → Option Int) : V → V
 | .int k => .int (at_ n F k : Nat)
 | _ => .non
end SC
namespace SC
open PySem L2 PyProof.Rows Ly S40
noncomputable def spToldR (C : Addr) : Sp := fun vs H Q _ => ∃ (x L : Addr) (r : Rl) (n : Nat) (F : Nat → Option Int) (w : Nat) (kv : V) (T : Ty6), vs = [.ref x, .int w, kv] ∧ w < 4 ∧ RowAt C H x L r n F ∧ Kn H kv T ∧
 (wholeV kv 0 999999 = false → ∀ H', Same H H' → Q (.str (nm 1)) H') ∧
 ∀ k, kv = .int k → (0 ≤ k ∧ k ≤ 999999) →
  (w = 0 → hasR n F k → Q (.bl false) H) ∧ (w = 0 → ¬ hasR n F k → freeN n F ≤ 1 → ∀ H', Same H H' → Q (.str (nm 3)) H') ∧ (w = 0 → ¬ hasR n F k → 1 < freeN n F → ∀ F' q, PutOk r n F k F' q → Q (.bl true) (upd H L (.lst (ringL n F')))) ∧
  (w = 1 → ¬ hasR n F k → Q (.bl false) H) ∧ (w = 1 → hasR n F k → ∀ F', DropOk r n F k F' → Q (.bl true) (upd H L (.lst (ringL n F')))) ∧
  (w = 2 → hasR n F k → Q (.bl true) H) ∧ (w = 2 → ¬ hasR n F k → Q (.bl false) H) ∧
  (w = 3 → ∀ m : Int, Q (.int m) H)
noncomputable def spMadeR : Sp := fun vs H Q _ => ∃ (v z : V) (T : Ty6), vs = [v, z] ∧ Kn H z T ∧ ((v = .non ∧ ∀ H', Same H H' → Q (.str (nm 0)) H') ∨ (∃ r, RlAt H v r ∧ r.Ok ∧ wholeV z 2 64 = false ∧ ∀ H', Same H H' → Q (.str (nm 2)) H'))
noncomputable def hide (H : Hp) (L k : Addr) : Hp := fun b => if b = L ∨ b = k then none else H b
end SC
namespace SC
open PySem L2 PyProof.Rows Ly S40
theorem rl_non {H : Hp} {r : Rl} (h : RlAt H .non r) : False := by
 cases r with
 | times a b => obtain ⟨p, e, _⟩ := h; cases e
 | high a b => obtain ⟨p, e, _⟩ := h; cases e
 | told ns => obtain ⟨p, q, e, _⟩ := h; cases e
noncomputable def st21 (a : Addr) (m : Int) (v : V) (n : Nat) (x xb pl kh : Addr) (v8 v9 v10 v11 v12 v13 v14 v15 : Option V) : L2.St := st16 a (some (.int m)) (some v) (some (.int n)) (some (.ref x)) (some (.ref xb)) (some (.ref pl)) (some (.ref kh)) v8 v9 v10 v11 v12 v13 v14 v15
structure DeOk (C : Addr) (Hb H : Hp) (kh x L : Addr) (r : Rl) (n : Nat) (pool ks : List Int) (F : Nat → Option Int) : Prop where
 sm : Same Hb H
 kl : H kh = some (.lst (ks.map V.int))
 nd : ks.Nodup
 sub : ∀ k ∈ ks, k ∈ pool
 few : ks.length < n
 row : RowAt C H x L r n F
 has : ∀ k, hasR n F k ↔ k ∈ ks
noncomputable def InvDe (mk : Option V → Option V → Option V → Option V → Option V → Option V → Option V → Option V → L2.St) (C : Addr) (Hb : Hp) (kh x L : Addr) (r : Rl) (n : Nat) (pool : List Int) (_ : Nat) (σ : L2.St) (H' : Hp) : Prop :=
 ∃ v8 v9 v10 v11 v12 v13 v14 v15 ks F, σ = mk v8 v9 v10 v11 v12 v13 v14 v15 ∧ DeOk C Hb H' kh x L r n pool ks F
theorem iteEq {v u : V} {A B : Prop} (h : v = u) (x : A) : if decide (v = u) = true then A else B := by rw [if_pos (decide_eq_true h)]; exact x
theorem iteNe {v u : V} {A B : Prop} (h : v ≠ u) (x : B) : if decide (v = u) = true then A else B := by rw [if_neg (fun z => h (of_decide_eq_true z))]; exact x
inductive Trn (n : Nat) (k : Int) (ks : List Int) : Nat → List Int → V → Prop where
 | t1 : k ∈ ks → Trn n k ks 0 ks (.bl false)
 | t2 : k ∉ ks → ks.length = n - 1 → Trn n k ks 0 ks (.str "Full")
 | t3 : k ∉ ks → ks.length < n - 1 → Trn n k ks 0 (ks ++ [k]) (.bl true)
 | t4 : k ∈ ks → Trn n k ks 1 (ks.erase k) (.bl true)
 | t5 : k ∉ ks → Trn n k ks 1 ks (.bl false)
 | t6 : Trn n k ks 2 ks (.bl (decide (k ∈ ks)))
 | t7 (b : Bool) : Trn n k ks 3 ks (.bl b)
noncomputable def Alk (w : Nat) (d f : V) : Prop := w < 3 → (∃ b, d = .bl b ∧ f = .bl b) ∨ (d = .str "Full" ∧ f = .str "Full")
end SC
namespace Gw
noncomputable def srt (l : List Int) : List Int := l.mergeSort (fun a b => decide (a ≤ b))
theorem srt_perm (l : List Int) : (srt l).Perm l := List.mergeSort_perm ..
theorem srt_pw (l : List Int) : (srt l).Pairwise (· ≤ ·) := by
 have := List.pairwise_mergeSort (le := fun a b : Int => decide (a ≤ b)) (fun a b c h1 h2 => by simp at h1 h2 ⊢; omega) (fun a b => by simp; omega) l
 exact this.imp fun h => by simpa using h
theorem srt_of {l ks : List Int} (pm : ks.Perm l) (pw : ks.Pairwise (· ≤ ·)) : ks = srt l :=
 (pm.trans (srt_perm l).symm).eq_of_pairwise (fun _ _ _ _ h1 h2 => Int.le_antisymm h1 h2) pw (srt_pw l)
theorem srt_len (l : List Int) : (srt l).length = l.length := (srt_perm l).length_eq
theorem srt_mem {l : List Int} {x : Int} : x ∈ srt l ↔ x ∈ l := (srt_perm l).mem_iff
theorem srt_nd {l : List Int} (h : l.Nodup) : (srt l).Nodup := (srt_perm l).nodup_iff.mpr h
structure GS where
 n : Nat
 ko : List Int
 kn : List Int
 g : Nat
noncomputable def GS.tot (s : GS) : Nat := s.ko.length + s.kn.length
noncomputable def GS.all (s : GS) : List Int := s.ko ++ s.kn
structure Mid (s : GS) : Prop where
 nd : (s.ko ++ s.kn).Nodup
 bd : ∀ k ∈ s.ko ++ s.kn, 0 ≤ k ∧ k ≤ 999999
 lo : 4 * (s.ko.length + s.kn.length) ≤ 3 * s.n
 n2 : 2 ≤ s.n
 ev : s.ko ≠ [] → ∃ m, s.n = 2 * m ∧ 2 ≤ m ∧ s.ko.length < m
structure Fin (s : GS) : Prop extends Mid s where
 hi : s.ko ≠ [] → 4 * (s.kn.length + 2 * s.ko.length) ≤ 3 * s.n
noncomputable def crowd (s : GS) : Prop := s.ko = [] ∧ 3 * s.n < 4 * (s.kn.length + 1)
instance (s : GS) : Decidable (crowd s) := by unfold crowd; exact inferInstance
noncomputable def room (s : GS) : GS := if crowd s then ⟨2 * s.n, s.kn, [], s.g⟩ else s
noncomputable def isIn (s : GS) (k : Int) : Prop := k ∈ s.ko ∨ k ∈ s.kn
instance (s : GS) (k : Int) : Decidable (isIn s k) := by unfold isIn; exact inferInstance
noncomputable def putS (s : GS) (k : Int) : GS := if isIn s k then s else ⟨(room s).n, (room s).ko, (room s).kn ++ [k], s.g⟩
noncomputable def dropS (s : GS) (k : Int) : GS := if k ∈ s.ko then ⟨s.n, s.ko.erase k, s.kn, s.g⟩ else ⟨s.n, s.ko, s.kn.erase k, s.g⟩
noncomputable def mvs (s : GS) (st : Nat) : List Int := (srt s.ko).take st
noncomputable def ers (l ms : List Int) : List Int := ms.foldl (fun l k => l.erase k) l
noncomputable def goneS (s : GS) (ms : List Int) (j : Nat) : GS := ⟨s.n, ers s.ko (ms.take j), s.kn ++ ms.take j, s.g + j⟩
noncomputable def movS (s : GS) (st : Nat) : GS := goneS s (mvs s st) (mvs s st).length
theorem ers_perm : ∀ {ms l : List Int}, ms.Nodup → (∀ k ∈ ms, k ∈ l) → (ms ++ ers l ms).Perm l
 | [], l, _, _ => List.Perm.refl _
 | k :: ms, l, nd, h => by
  have nd' := List.nodup_cons.mp nd
  have hk : k ∈ l := h k (List.mem_cons_self ..)
  have ih := ers_perm (ms := ms) (l := l.erase k) nd'.2 fun x hx => (List.mem_erase_of_ne (fun z => nd'.1 (by rw [← z]; exact hx))).mpr (h x (List.mem_cons_of_mem _ hx))
  show (k :: (ms ++ ers (l.erase k) ms)).Perm l
  exact (ih.cons k).trans (List.perm_cons_erase hk).symm
theorem mvs_nd {s : GS} {st : Nat} (h : s.ko.Nodup) : (mvs s st).Nodup := (srt_nd h).sublist (List.take_sublist _ _)
theorem mvs_mem {s : GS} {st : Nat} : ∀ k ∈ mvs s st, k ∈ s.ko := fun k h => srt_mem.mp (List.mem_of_mem_take h)
theorem mvs_len (s : GS) (st : Nat) : (mvs s st).length = min st s.ko.length := by unfold mvs; rw [List.length_take, srt_len]
theorem gone_perm {s : GS} {ms : List Int} {j : Nat} (nd : ms.Nodup) (h : ∀ k ∈ ms, k ∈ s.ko) : ((goneS s ms j).ko ++ (goneS s ms j).kn).Perm (s.ko ++ s.kn) := by
 have p := ers_perm (ms := ms.take j) (l := s.ko) (nd.sublist (List.take_sublist _ _)) fun k hk => h k (List.mem_of_mem_take hk)
 show (ers s.ko (ms.take j) ++ (s.kn ++ ms.take j)).Perm _
 generalize ms.take j = t at p
 have h1 : (ers s.ko t ++ (s.kn ++ t)).Perm ((t ++ ers s.ko t) ++ s.kn) := by
  refine (List.Perm.append_left _ List.perm_append_comm).trans ?_
  rw [← List.append_assoc]
  exact List.Perm.append_right _ List.perm_append_comm
 exact h1.trans (p.append_right _)
theorem gone_len {s : GS} {ms : List Int} {j : Nat} (nd : ms.Nodup) (h : ∀ k ∈ ms, k ∈ s.ko) (hj : j ≤ ms.length) : (goneS s ms j).ko.length + j = s.ko.length ∧ (goneS s ms j).kn.length = s.kn.length + j := by
 have p := (ers_perm (ms := ms.take j) (l := s.ko) (nd.sublist (List.take_sublist _ _)) fun k hk => h k (List.mem_of_mem_take hk)).length_eq
 rw [List.length_append, List.length_take] at p
 show (ers s.ko (ms.take j)).length + j = _ ∧ (s.kn ++ ms.take j).length = _
 rw [List.length_append, List.length_take]
 omega
theorem gone_mid {s : GS} {ms : List Int} {j : Nat} (m : Mid s) (nd : ms.Nodup) (h : ∀ k ∈ ms, k ∈ s.ko) (hj : j ≤ ms.length) : Mid (goneS s ms j) := by
 have p := gone_perm (j := j) nd h
 obtain ⟨l1, l2⟩ := gone_len nd h hj
 refine ⟨p.nodup_iff.mpr m.nd, fun k hk => m.bd k (p.mem_iff.mp hk), ?_, m.n2, fun z => ?_⟩
 ·have := m.lo
  show 4 * ((goneS s ms j).ko.length + (goneS s ms j).kn.length) ≤ 3 * s.n
  omega
 ·have : s.ko ≠ [] := fun w => by
   apply z
   rw [w, List.length_nil] at l1
   exact List.eq_nil_of_length_eq_zero (by omega)
  obtain ⟨n1, h1, h2, h3⟩ := m.ev this
  exact ⟨n1, h1, h2, by omega⟩
theorem mov_fin {s : GS} {st : Nat} (m : Mid s) (h : s.ko ≠ [] → 4 * (s.kn.length + 2 * s.ko.length) ≤ 3 * s.n + 4) (hst : 1 ≤ st) : Fin (movS s st) := by
 have nk : s.ko.Nodup := (List.nodup_append.mp m.nd).1
 obtain ⟨l1, l2⟩ := gone_len (s := s) (mvs_nd (st := st) nk) mvs_mem (Nat.le_refl _)
 refine ⟨gone_mid m (mvs_nd nk) mvs_mem (Nat.le_refl _), fun z => ?_⟩
 have hl := mvs_len s st
 have : s.ko ≠ [] := fun w => by
  apply z
  rw [w, List.length_nil] at l1
  exact List.eq_nil_of_length_eq_zero (by unfold movS; omega)
 have h0 := h this
 have hp : 0 < s.ko.length := List.length_pos_iff.mpr this
 have z' : 0 < (movS s st).ko.length := List.length_pos_iff.mpr z
 unfold movS at z' ⊢
 show 4 * ((goneS s (mvs s st) (mvs s st).length).kn.length + 2 * (goneS s (mvs s st) (mvs s st).length).ko.length) ≤ 3 * s.n
 omega
theorem put_mid {s : GS} {k : Int} (m : Fin s) (hk : ¬ isIn s k) (hb : 0 ≤ k ∧ k ≤ 999999) : Mid (putS s k) ∧ ((putS s k).ko ≠ [] → 4 * ((putS s k).kn.length + 2 * (putS s k).ko.length) ≤ 3 * (putS s k).n + 4) := by
 have hk' : k ∉ s.ko ∧ k ∉ s.kn := ⟨fun z => hk (.inl z), fun z => hk (.inr z)⟩
 have nd := List.nodup_append.mp m.nd
 unfold putS
 rw [if_neg hk]
 unfold room
 by_cases c : crowd s
 ·rw [if_pos c]
  obtain ⟨c1, c2⟩ := id c
  have hl := m.lo
  have h2 := m.n2
  rw [c1] at hl
  simp only [List.length_nil, Nat.zero_add] at hl
  refine ⟨⟨?_, ?_, ?_, ?_, fun _ => ⟨s.n, rfl, m.n2, ?_⟩⟩, fun _ => ?_⟩
  ·show (s.kn ++ ([] ++ [k])).Nodup
   rw [List.nil_append, List.nodup_append]
   exact ⟨nd.2.1, by simp, fun a ha b hb => by simp at hb; rw [hb]; exact fun z => hk'.2 (by rw [← z]; exact ha)⟩
  ·intro x hx
   rcases List.mem_append.mp hx with z | z
   ·exact m.bd x (List.mem_append.mpr (.inr z))
   ·simp at z; rw [z]; exact hb
  ·show 4 * (s.kn.length + ([] ++ [k]).length) ≤ 3 * (2 * s.n)
   simp
   omega
  ·show 2 ≤ 2 * s.n
   omega
  ·show s.kn.length < s.n
   omega
  ·show 4 * (([] ++ [k] : List Int).length + 2 * s.kn.length) ≤ 3 * (2 * s.n) + 4
   simp
   omega
 ·rw [if_neg c]
  have hl := m.lo
  refine ⟨⟨?_, ?_, ?_, m.n2, m.ev⟩, fun z => ?_⟩
  ·show (s.ko ++ (s.kn ++ [k])).Nodup
   rw [← List.append_assoc, List.nodup_append]
   exact ⟨m.nd, by simp, fun a ha b hb => by simp at hb; rw [hb]; exact fun z => hk (List.mem_append.mp (by rw [← z]; exact ha))⟩
  ·intro x hx
   show 0 ≤ x ∧ x ≤ 999999
   rw [show s.ko ++ (s.kn ++ [k]) = (s.ko ++ s.kn) ++ [k] by rw [List.append_assoc]] at hx
   rcases List.mem_append.mp hx with z | z
   ·exact m.bd x z
   ·simp at z; rw [z]; exact hb
  ·show 4 * (s.ko.length + (s.kn ++ [k]).length) ≤ 3 * s.n
   rw [List.length_append, List.length_singleton]
   by_cases c0 : s.ko = []
   ·have : ¬ 3 * s.n < 4 * (s.kn.length + 1) := fun w => c ⟨c0, w⟩
    rw [c0]
    simp only [List.length_nil]
    omega
   ·have := m.hi c0
    have hp : 0 < s.ko.length := List.length_pos_iff.mpr c0
    omega
  ·have := m.hi z
   show 4 * ((s.kn ++ [k]).length + 2 * s.ko.length) ≤ 3 * s.n + 4
   rw [List.length_append, List.length_singleton]
   omega
theorem drop_mid {s : GS} {k : Int} (m : Fin s) : Mid (dropS s k) ∧ ((dropS s k).ko ≠ [] → 4 * ((dropS s k).kn.length + 2 * (dropS s k).ko.length) ≤ 3 * (dropS s k).n + 4) := by
 have hl := m.lo
 have nd := List.nodup_append.mp m.nd
 unfold dropS
 by_cases c : k ∈ s.ko
 ·rw [if_pos c]
  have hsub : List.Sublist (s.ko.erase k ++ s.kn) (s.ko ++ s.kn) := List.Sublist.append (List.erase_sublist) (List.Sublist.refl _)
  have hle : (s.ko.erase k).length ≤ s.ko.length := List.erase_sublist.length_le
  have hne : s.ko ≠ [] := fun w => by rw [w] at c; cases c
  refine ⟨⟨m.nd.sublist hsub, fun x hx => m.bd x (hsub.subset hx), ?_, m.n2, fun z => ?_⟩, fun z => ?_⟩
  ·show 4 * ((s.ko.erase k).length + s.kn.length) ≤ 3 * s.n
   omega
  ·obtain ⟨n1, h1, h2, h3⟩ := m.ev hne
   exact ⟨n1, h1, h2, by show (s.ko.erase k).length < n1; omega⟩
  ·have := m.hi hne
   show 4 * (s.kn.length + 2 * (s.ko.erase k).length) ≤ 3 * s.n + 4
   omega
 ·rw [if_neg c]
  have hsub : List.Sublist (s.ko ++ s.kn.erase k) (s.ko ++ s.kn) := List.Sublist.append (List.Sublist.refl _) (List.erase_sublist)
  have hle : (s.kn.erase k).length ≤ s.kn.length := List.erase_sublist.length_le
  refine ⟨⟨m.nd.sublist hsub, fun x hx => m.bd x (hsub.subset hx), ?_, m.n2, fun z => m.ev z⟩, fun z => ?_⟩
  ·show 4 * (s.ko.length + (s.kn.erase k).length) ≤ 3 * s.n
   omega
  ·have := m.hi z
   show 4 * ((s.kn.erase k).length + 2 * s.ko.length) ≤ 3 * s.n + 4
   omega
theorem not_early {s : GS} (m : Fin s) (h : s.ko ≠ []) : ¬ 3 * s.n < 4 * (s.ko.length + s.kn.length + 1) := by
 have := m.hi h
 have hp : 0 < s.ko.length := List.length_pos_iff.mpr h
 omega
end Gw
namespace SC
open PySem L2 PyProof.Rows Ly S40 Gw
noncomputable def hid (H : Hp) (as : List Addr) : Hp := fun b => if b ∈ as then none else H b
noncomputable def Hid (Hb H : Hp) (as : List Addr) : Prop := Same Hb H ∧ ∀ b ∈ as, Hb b = none
theorem hid_ok (H : Hp) (as : List Addr) : Hid (hid H as) H as :=
 ⟨fun b u h => by unfold hid at h; split at h; cases h; exact h, fun b hb => by unfold hid; rw [if_pos hb]⟩
theorem hid_at {H : Hp} {as : List Addr} {b : Addr} (h : b ∉ as) : hid H as b = H b := by unfold hid; rw [if_neg h]
theorem Hid.new {Hb H H' : Hp} {as : List Addr} (h : Hid Hb H as) (s : Same H H') : Hid Hb H' as := ⟨h.1.trans s, h.2⟩
theorem Hid.put {Hb H : Hp} {as : List Addr} {b : Addr} (h : Hid Hb H as) (hb : b ∈ as) (o : HO) : Hid Hb (upd H b o) as :=
 ⟨fun c u e => by rw [upd_ne (fun z => by rw [z, h.2 b hb] at e; cases e)]; exact h.1 c u e, h.2⟩
theorem Hid.fresh {Hb H : Hp} {as : List Addr} {b : Addr} (h : Hid Hb H as) (hb : H b = none) : Hb b = none := h.1.free hb
noncomputable def Fr (H H' : Hp) (as bs : List Addr) : Prop := ∀ Hb, Hid Hb H as → Hid Hb H' bs
theorem Fr.trans {H H' H'' : Hp} {as bs cs : List Addr} (a : Fr H H' as bs) (b : Fr H' H'' bs cs) : Fr H H'' as cs := fun Hb h => b Hb (a Hb h)
theorem Fr.same {H H' : Hp} (as : List Addr) (s : Same H H') : Fr H H' as as := fun _ h => h.new s
theorem Fr.put {H : Hp} {as : List Addr} {b : Addr} (hb : b ∈ as) (o : HO) : Fr H (upd H b o) as as := fun _ h => h.put hb o
noncomputable def orV : Option Addr → V
 | none => .non
 | some L => .ref L
noncomputable def grF (v : V) (st g : Nat) (oL : Option Addr) (Ln : Addr) : List (Str × V) := [("rule", v), ("moves_each", .int st), ("moves_so_far", .int g), ("older", orV oL), ("newer", .ref Ln)]
structure RingAt (H : Hp) (L : Addr) (r : Rl) (n : Nat) (ks : List Int) (F : Nat → Option Int) : Prop where
 pl : H L = some (.lst (ringL n F))
 ok : RowOk r n F
 has : ∀ k, hasR n F k ↔ k ∈ ks
structure GrAt (C : Addr) (H : Hp) (t Ln : Addr) (oL : Option Addr) (r : Rl) (st : Nat) (s : GS) : Prop where
 obj : ∃ dx v, H t = some (.ins C dx (grF v st s.g oL Ln)) ∧ RlAt H v r
 rk : r.Ok
 st4 : 1 ≤ st ∧ st ≤ 4
 n1 : s.n ≤ 1024
 new : ∃ F, RingAt H Ln r s.n s.kn F
 old : ∀ L, oL = some L → L ≠ Ln ∧ ∃ m F, s.n = 2 * m ∧ 2 ≤ m ∧ RingAt H L r m s.ko F
 non : oL = none → s.ko = []
noncomputable def mutG (t Ln : Addr) (oL : Option Addr) : List Addr := t :: Ln :: oL.toList
theorem RingAt.same {H H' : Hp} {L : Addr} {r : Rl} {n : Nat} {ks : List Int} {F : Nat → Option Int} (s : Same H H') (h : RingAt H L r n ks F) : RingAt H' L r n ks F := ⟨s _ _ h.pl, h.ok, h.has⟩
theorem RingAt.upd {H : Hp} {L b : Addr} {r : Rl} {n : Nat} {ks : List Int} {F : Nat → Option Int} {o : HO} (hb : L ≠ b) (h : RingAt H L r n ks F) : RingAt (upd H b o) L r n ks F := ⟨by rw [upd_ne hb]; exact h.pl, h.ok, h.has⟩
theorem GrAt.same {C : Addr} {H H' : Hp} {t Ln : Addr} {oL : Option Addr} {r : Rl} {st : Nat} {s : GS} (sm : Same H H') (h : GrAt C H t Ln oL r st s) : GrAt C H' t Ln oL r st s := by
 obtain ⟨⟨dx, v, ho, ra⟩, rk, s4, n1, ⟨F, hF⟩, old, non⟩ := h
 exact ⟨⟨dx, v, sm _ _ ho, ra.same sm⟩, rk, s4, n1, ⟨F, hF.same sm⟩, fun L e => let ⟨a, m, F, b, c, d⟩ := old L e; ⟨a, m, F, b, c, d.same sm⟩, non⟩
theorem GrAt.frame {C : Addr} {H H' : Hp} {t Ln : Addr} {oL : Option Addr} {r : Rl} {st : Nat} {s : GS} {as bs : List Addr} (h : GrAt C H t Ln oL r st s) (hd : ∀ b ∈ mutG t Ln oL, b ∉ as) (htup : ∀ b zs, H b = some (.tup zs) → b ∉ as) (fr : Fr H H' as bs) : GrAt C H' t Ln oL r st s ∧ ∀ b ∈ mutG t Ln oL, b ∉ bs := by
 have f := fr (hid H as) (hid_ok H as)
 have go : ∀ b u, b ∉ as → H b = some u → H' b = some u := fun b u hb hu => f.1 b u (by rw [hid_at hb]; exact hu)
 have nb : ∀ b u, b ∉ as → H b = some u → b ∉ bs := fun b u hb hu z => by have := f.2 b z; rw [hid_at hb, hu] at this; cases this
 have ht : t ∉ as := hd t (List.mem_cons_self ..)
 have hLn : Ln ∉ as := hd Ln (List.mem_cons_of_mem _ (List.mem_cons_self ..))
 obtain ⟨⟨dx, v, ho, ra⟩, rk, s4, n1, ⟨F, hF⟩, old, non⟩ := h
 have ra' : RlAt H' v r := by
  cases r with
  | times a b => obtain ⟨p, e, h⟩ := ra; exact ⟨p, e, go _ _ (htup _ _ h) h⟩
  | high a b => obtain ⟨p, e, h⟩ := ra; exact ⟨p, e, go _ _ (htup _ _ h) h⟩
  | told ns => obtain ⟨p, q, e, h, h'⟩ := ra; exact ⟨p, q, e, go _ _ (htup _ _ h) h, go _ _ (htup _ _ h') h'⟩
 have hold : ∀ L, oL = some L → L ∉ as := fun L e => hd L (by rw [e]; simp [mutG])
 refine ⟨⟨⟨dx, v, go _ _ ht ho, ra'⟩, rk, s4, n1, ⟨F, go _ _ hLn hF.pl, hF.ok, hF.has⟩, fun L e => ?_, non⟩, fun b hb => ?_⟩
 ·obtain ⟨a, m, F, b, c, d⟩ := old L e
  exact ⟨a, m, F, b, c, go _ _ (hold L e) d.pl, d.ok, d.has⟩
 ·unfold mutG at hb
  rcases List.mem_cons.mp hb with z | hb
  ·rw [z]; exact nb _ _ ht ho
  rcases List.mem_cons.mp hb with z | hb
  ·rw [z]; exact nb _ _ hLn hF.pl
  ·cases oL with
   | none => cases hb
   | some L =>
    have e : b = L := by simpa using hb
    subst e
    obtain ⟨_, m, F, _, _, d⟩ := old b rfl
    exact nb _ _ (hold b rfl) d.pl
end SC
namespace SC
open PySem L2 PyProof.Rows Ly S40 Gw
structure GrF (C : Addr) (H : Hp) (t Ln : Addr) (oL : Option Addr) (r : Rl) (st : Nat) (s : GS) : Prop where
 at_ : GrAt C H t Ln oL r st s
 fin : Gw.Fin s
 ol : s.ko = [] → oL = none
 tot : s.tot ≤ 40
theorem GrF.same {C : Addr} {H H' : Hp} {t Ln : Addr} {oL : Option Addr} {r : Rl} {st : Nat} {s : GS} (sm : Same H H') (h : GrF C H t Ln oL r st s) : GrF C H' t Ln oL r st s := ⟨h.at_.same sm, h.fin, h.ol, h.tot⟩
noncomputable def spCrowd : Sp := fun vs H Q _ => ∃ (L : Addr) (n : Nat) (F : Nat → Option Int), vs = [.ref L] ∧ H L = some (.lst (ringL n F)) ∧ n ≤ 2000 ∧ (seqN F n).length < 64 ∧ ∀ H', Same H H' → Q (.bl (decide (3 * n < 4 * ((seqN F n).length + 1)))) H'
noncomputable def spRowWith (C : Addr) : Sp := fun vs H Q _ => ∃ (t Ln : Addr) (oL : Option Addr) (r : Rl) (st : Nat) (s : GS) (k : Int), vs = [.ref t, .int k] ∧ GrAt C H t Ln oL r st s ∧ 2 ≤ s.n ∧ (0 ≤ k ∧ k ≤ 999999) ∧
 ∀ H', Same H H' → (k ∈ s.kn → Q (.ref Ln) H') ∧ (k ∉ s.kn → ∀ L, oL = some L → k ∈ s.ko → Q (.ref L) H') ∧ (k ∉ s.kn → k ∉ s.ko → Q .non H')
noncomputable def spMakeRoom (C : Addr) : Sp := fun vs H Q _ => ∃ (t Ln : Addr) (oL : Option Addr) (r : Rl) (st : Nat) (s : GS), vs = [.ref t] ∧ GrF C H t Ln oL r st s ∧ s.tot < 40 ∧
 ∀ Ln' oL' H', GrAt C H' t Ln' oL' r st (room s) → Fr H H' (mutG t Ln oL) (mutG t Ln' oL') → Q .non H'
noncomputable def spMoveKeys (C : Addr) : Sp := fun vs H Q _ => ∃ (t Ln : Addr) (oL : Option Addr) (r : Rl) (st : Nat) (s : GS), vs = [.ref t] ∧ GrAt C H t Ln oL r st s ∧ Mid s ∧ s.tot ≤ 40 ∧
 ∀ oL' H', GrAt C H' t Ln oL' r st (movS s st) → ((movS s st).ko = [] → oL' = none) → Fr H H' (mutG t Ln oL) (mutG t Ln oL') → Q .non H'
noncomputable def spGDeed (C cK : Addr) (op : GS → Int → GS) (ans : GS → Int → Bool) : Sp := fun vs H Q E => ∃ (t Ln : Addr) (oL : Option Addr) (r : Rl) (st : Nat) (s : GS) (kv : V) (T : Ty6), vs = [.ref t, kv] ∧ GrF C H t Ln oL r st s ∧ Kn H kv T ∧
 (wholeV kv 0 999999 = false → E (.ref cK) none H) ∧ ∀ k, kv = .int k → (0 ≤ k ∧ k ≤ 999999) → (¬ isIn s k → s.tot < 40) ∧ ∀ Ln' oL' H', GrF C H' t Ln' oL' r st (movS (op s k) st) → Fr H H' (mutG t Ln oL) (mutG t Ln' oL') → Q (.bl (ans s k)) H'
noncomputable def hasS (s : GS) (_ : Int) : GS := s
noncomputable def inB (s : GS) (k : Int) : Bool := decide (isIn s k)
noncomputable def ninB (s : GS) (k : Int) : Bool := !decide (isIn s k)
noncomputable def spGAll (C : Addr) : Sp := fun vs H Q _ => ∃ (t Ln : Addr) (oL : Option Addr) (r : Rl) (st : Nat) (s : GS), vs = [.ref t] ∧ GrF C H t Ln oL r st s ∧ ∀ l H', Same H H' → H' l = some (.lst ((srt (s.ko ++ s.kn)).map V.int)) → Q (.ref l) H'
structure LaysAt (H : Hp) (p : Addr) (r : Rl) (s : GS) : Prop where
 ex : ∃ (x : V) (b : Addr) (F : Nat → Option Int), H p = some (.tup [x, .ref b]) ∧ RingAt H b r s.n s.kn F ∧ (s.ko = [] → x = .non) ∧ (s.ko ≠ [] → ∃ a m F1, x = .ref a ∧ s.n = 2 * m ∧ 2 ≤ m ∧ RingAt H a r m s.ko F1)
noncomputable def spGLays (C : Addr) : Sp := fun vs H Q _ => ∃ (t Ln : Addr) (oL : Option Addr) (r : Rl) (st : Nat) (s : GS), vs = [.ref t] ∧ GrF C H t Ln oL r st s ∧ ∀ p H', Same H H' → LaysAt H' p r s → Q (.ref p) H'
noncomputable def spGMoved (C : Addr) : Sp := fun vs H Q _ => ∃ (t Ln : Addr) (oL : Option Addr) (r : Rl) (st : Nat) (s : GS), vs = [.ref t] ∧ GrF C H t Ln oL r st s ∧ Q (.int s.g) H
noncomputable def spGNew (C cR cZ : Addr) : Sp := fun vs H Q E => ∃ (x dx : Addr) (v z w : V) (T U : Ty6), vs = [.ref x, v, z, w] ∧ H x = some (.ins C dx []) ∧ Plain H v ∧ Kn H z T ∧ Kn H w U ∧
 (isRuleV H v = false → ∀ H', Same H H' → E (.ref cR) none H') ∧ (isRuleV H v = true → (wholeV z 2 64 = false ∨ wholeV w 1 4 = false) → ∀ H', Same H H' → E (.ref cZ) none H') ∧
 (∀ r n st, RlAt H v r → r.Ok → z = .int (n : Nat) → 2 ≤ n → n ≤ 64 → w = .int (st : Nat) → 1 ≤ st → st ≤ 4 → ∀ L H', H L = none → SameX x H H' → GrF C H' x L none r st ⟨n, [], [], 0⟩ → Q .non H')
noncomputable def ownD (lo ln : Addr) (n st g : Nat) : List (Key × V) := [(.inr "older", .ref lo), (.inr "newer", .ref ln), (.inr "size", .int n), (.inr "step", .int st), (.inr "gone", .int g)]
structure OwnAt (H : Hp) (d lo ln : Addr) (st : Nat) (s : GS) : Prop where
 dd : H d = some (.dK (ownD lo ln s.n st s.g))
 hlo : H lo = some (.lst (s.ko.map V.int))
 hln : H ln = some (.lst (s.kn.map V.int))
 ne : lo ≠ ln
noncomputable def opS (w : Nat) (s : GS) (k : Int) : GS := if w = 0 then putS s k else if w = 1 then dropS s k else s
noncomputable def ansS (w : Nat) (s : GS) (k : Int) : Bool := if w = 0 then !decide (isIn s k) else decide (isIn s k)
noncomputable def spLMoved : Sp := fun vs H Q _ => ∃ (d lo ln : Addr) (st : Nat) (s : GS), vs = [.ref d] ∧ OwnAt H d lo ln st s ∧ s.ko.Nodup ∧ s.tot ≤ 40 ∧ st ≤ 4 ∧ ∀ H', OwnAt H' d lo ln st (movS s st) → Fr H H' [d, lo, ln] [d, lo, ln] → Q .non H'
noncomputable def spLDone : Sp := fun vs H Q _ => ∃ (d lo ln : Addr) (st : Nat) (s : GS) (w : Nat) (k : Int), vs = [.ref d, .int w, .int k] ∧ w ≤ 2 ∧ OwnAt H d lo ln st s ∧ Gw.Fin s ∧ s.tot ≤ 40 ∧ (¬ isIn s k → s.tot < 40) ∧ st ≤ 4 ∧
 ∀ lo' ln' H', OwnAt H' d lo' ln' st (movS (opS w s k) st) → Fr H H' [d, lo, ln] [d, lo', ln'] → Q (.bl (ansS w s k)) H'
noncomputable def spLLays : Sp := fun vs H Q _ => ∃ (v : V) (r : Rl) (d lo ln : Addr) (st : Nat) (s : GS), vs = [v, .ref d] ∧ RlAt H v r ∧ r.Ok ∧ OwnAt H d lo ln st s ∧ Gw.Fin s ∧ s.n ≤ 106 ∧ s.tot ≤ 40 ∧ ∀ p H', Same H H' → LaysAt H' p r s → Q (.ref p) H'
noncomputable def spToldG (C : Addr) : Sp := fun vs H Q _ => ∃ (t Ln : Addr) (oL : Option Addr) (r : Rl) (st : Nat) (s : GS) (w : Nat) (kv : V) (T : Ty6), vs = [.ref t, .int w, kv] ∧ w ≤ 2 ∧ GrF C H t Ln oL r st s ∧ Kn H kv T ∧
 (wholeV kv 0 999999 = false → ∀ H', Same H H' → Q (.str (nm 1)) H') ∧ ∀ k, kv = .int k → (0 ≤ k ∧ k ≤ 999999) → (¬ isIn s k → s.tot < 40) ∧ ∀ Ln' oL' H', GrF C H' t Ln' oL' r st (movS (opS w s k) st) → Fr H H' (mutG t Ln oL) (mutG t Ln' oL') → Q (.bl (ansS w s k)) H'
noncomputable def spTriedG : Sp := fun vs H Q _ => ∃ (v z w : V) (T U : Ty6), vs = [v, z, w] ∧ Kn H z T ∧ Kn H w U ∧ ((v = .non ∧ ∀ H', Same H H' → Q (.str (nm 0)) H') ∨ (∃ r, RlAt H v r ∧ r.Ok ∧ (wholeV z 2 64 = false ∨ wholeV w 1 4 = false) ∧ ∀ H', Same H H' → Q (.str (nm 2)) H'))
end SC
namespace SC
open PySem L2 PyProof.Rows Ly S40 Gw
theorem cut_take (ks : List Int) (j : Nat) : cutV (ks.map V.int) none (some (j : Int)) = (ks.take j).map V.int := by
 by_cases h : j ≤ ks.length
 ·exact cut_ints ks j h
 ·unfold cutV
  have h1 : HT.sIx (ks.map V.int).length 0 none = 0 := by simp [HT.sIx]
  have h2 : HT.sIx (ks.map V.int).length (ks.map V.int).length (some (j : Int)) = ks.length := by
   simp only [HT.sIx]
   rw [if_neg (by omega), List.length_map]
   omega
  rw [h1, h2]
  show ((ks.map V.int).drop 0).take (ks.length - 0) = _
  rw [List.drop_zero, Nat.sub_zero, ← List.map_take, List.take_of_length_le (Nat.le_refl _), List.take_of_length_le (by omega)]
theorem mov_nil {s : GS} {st : Nat} (h : s.ko = []) : movS s st = s := by
 obtain ⟨n, ko, kn, g⟩ := s
 cases h
 have e : mvs ⟨n, [], kn, g⟩ st = [] := List.eq_nil_of_length_eq_zero (by rw [mvs_len]; simp)
 unfold movS
 rw [e]
 show GS.mk n [] (kn ++ []) (g + 0) = _
 rw [List.append_nil]
 rfl
theorem ers_snoc (l t : List Int) (k : Int) : ers l (t ++ [k]) = (ers l t).erase k := by unfold ers; rw [List.foldl_append]; rfl
theorem gone_step {s : GS} {ms : List Int} {j : Nat} {k : Int} (hk : ms[j]? = some k) : goneS s ms (j + 1) = ⟨s.n, (goneS s ms j).ko.erase k, (goneS s ms j).kn ++ [k], (goneS s ms j).g + 1⟩ := by
 have hj : j < ms.length := (List.getElem?_eq_some_iff.mp hk).1
 have et : ms.take (j + 1) = ms.take j ++ [k] := by
  obtain ⟨_, e⟩ := List.getElem?_eq_some_iff.mp hk
  rw [List.take_succ_eq_append_getElem hj, e]
 unfold goneS
 rw [et, ers_snoc, ← List.append_assoc]
 rfl
theorem gone_zero (s : GS) (ms : List Int) : goneS s ms 0 = s := by
 unfold goneS
 simp [ers]
theorem gone_mem {s : GS} {ms : List Int} {j : Nat} {k : Int} (nd : ms.Nodup) (hsub : ∀ k ∈ ms, k ∈ s.ko) (hk : ms[j]? = some k) : k ∈ (goneS s ms j).ko := by
 have hj : j < ms.length := (List.getElem?_eq_some_iff.mp hk).1
 have h1 := ers_perm (ms := ms.take j) (l := s.ko) (nd.sublist (List.take_sublist _ _)) fun k hk => hsub k (List.mem_of_mem_take hk)
 have h2 : k ∈ ms.take j ++ ers s.ko (ms.take j) := h1.mem_iff.mpr (hsub k (List.mem_of_getElem? hk))
 rcases List.mem_append.mp h2 with z | z
 ·have et : ms.take (j + 1) = ms.take j ++ [k] := by
   obtain ⟨_, e⟩ := List.getElem?_eq_some_iff.mp hk
   rw [List.take_succ_eq_append_getElem hj, e]
  have : (ms.take j ++ [k]).Nodup := by rw [← et]; exact nd.sublist (List.take_sublist _ _)
  rw [List.nodup_append] at this
  exact absurd rfl (this.2.2 k z k (List.mem_singleton.mpr rfl))
 ·exact z
theorem RlAt.updT {H : Hp} {t C dx : Addr} {fs : List (Str × V)} {o : HO} {v : V} {r : Rl} (ht : H t = some (.ins C dx fs)) (ra : RlAt H v r) : RlAt (upd H t o) v r := by
 have go : ∀ p ys, H p = some (.tup ys) → upd H t o p = some (.tup ys) := fun p ys h => by rw [upd_ne (fun z => by rw [z, ht] at h; cases h)]; exact h
 cases r with
 | times a b => obtain ⟨p, e, h⟩ := ra; exact ⟨p, e, go _ _ h⟩
 | high a b => obtain ⟨p, e, h⟩ := ra; exact ⟨p, e, go _ _ h⟩
 | told ns => obtain ⟨p, q, e, h, h'⟩ := ra; exact ⟨p, q, e, go _ _ h, go _ _ h'⟩
theorem mem_mut {t Ln : Addr} {oL : Option Addr} : t ∈ mutG t Ln oL ∧ Ln ∈ mutG t Ln oL ∧ ∀ L, oL = some L → L ∈ mutG t Ln oL := by
 unfold mutG
 refine ⟨List.mem_cons_self .., List.mem_cons_of_mem _ (List.mem_cons_self ..), fun L e => ?_⟩
 rw [e]
 simp
theorem mut_sub {t Ln Ln' : Addr} {oL oL' : Option Addr} {P : Addr → Prop} (h1 : P t) (h2 : P Ln') (h3 : ∀ L, oL' = some L → P L) : ∀ b ∈ mutG t Ln' oL', P b := fun b hb => by
 unfold mutG at hb
 rcases List.mem_cons.mp hb with z | hb
 ·rw [z]; exact h1
 rcases List.mem_cons.mp hb with z | hb
 ·rw [z]; exact h2
 ·cases oL' with
  | none => cases hb
  | some L =>
   have e : b = L := by simpa using hb
   exact h3 b (by rw [e])
theorem room_not {s : GS} (h : ¬ crowd s) : room s = s := if_neg h
theorem room_yes {s : GS} (h : crowd s) : room s = ⟨2 * s.n, s.kn, [], s.g⟩ := if_pos h
noncomputable def InvMv (C : Addr) (H2 : Hp) (t l p Ln L : Addr) (r : Rl) (st : Nat) (g : GS) (ms : List Int) (j : Nat) (σ : L2.St) (H' : Hp) : Prop :=
 ∃ x, σ = [some (.ref t), some (.ref l), x] ∧ GrAt C H' t Ln (some L) r st (goneS g ms j) ∧ Fr H2 H' (mutG t Ln (some L)) (mutG t Ln (some L))
theorem fr_keep {H H' : Hp} {as bs : List Addr} {b : Addr} {u : HO} (f : Fr H H' as bs) (h : b ∉ as) (e : H b = some u) : H' b = some u := (f _ (hid_ok H as)).1 b u (by rw [hid_at h]; exact e)
end SC
namespace SC
open PySem L2 PyProof.Rows Ly S40 Gw
theorem RingAt.ne {H : Hp} {L t C dx : Addr} {fs : List (Str × V)} {r : Rl} {n : Nat} {ks : List Int} {F : Nat → Option Int} (h : RingAt H L r n ks F) (ht : H t = some (.ins C dx fs)) : L ≠ t := fun z => by
 have := h.pl
 rw [z, ht] at this
 cases this
theorem tot_mov {s : GS} {st : Nat} (nd : s.ko.Nodup) : (movS s st).tot = s.tot := by
 obtain ⟨l1, l2⟩ := gone_len (s := s) (mvs_nd (st := st) nd) mvs_mem (Nat.le_refl _)
 unfold GS.tot movS
 omega
theorem put_all {s : GS} {k : Int} (f : Gw.Fin s) (hb : 0 ≤ k ∧ k ≤ 999999) : Mid (putS s k) ∧ ((putS s k).ko ≠ [] → 4 * ((putS s k).kn.length + 2 * (putS s k).ko.length) ≤ 3 * (putS s k).n + 4) := by
 by_cases c : isIn s k
 ·have e : putS s k = s := if_pos c
  rw [e]
  exact ⟨f.toMid, fun z => by have := f.hi z; omega⟩
 ·exact put_mid f c hb
theorem put_fin {s : GS} {k : Int} {st : Nat} (f : Gw.Fin s) (hb : 0 ≤ k ∧ k ≤ 999999) (hst : 1 ≤ st) : Gw.Fin (movS (putS s k) st) := mov_fin (put_all f hb).1 (put_all f hb).2 hst
theorem drop_fin {s : GS} {k : Int} {st : Nat} (f : Gw.Fin s) (hst : 1 ≤ st) : Gw.Fin (movS (dropS s k) st) := mov_fin (drop_mid f).1 (drop_mid f).2 hst
theorem has_fin {s : GS} {st : Nat} (f : Gw.Fin s) (hst : 1 ≤ st) : Gw.Fin (movS s st) := mov_fin f.toMid (fun z => by have := f.hi z; omega) hst
theorem tot_put {s : GS} {k : Int} (h : s.tot ≤ 40) (h2 : ¬ isIn s k → s.tot < 40) : (putS s k).tot ≤ 40 := by
 by_cases c : isIn s k
 ·have e : putS s k = s := if_pos c
  rw [e]; exact h
 ·have := h2 c
  have e : putS s k = ⟨(room s).n, (room s).ko, (room s).kn ++ [k], s.g⟩ := if_neg c
  rw [e]
  by_cases cr : crowd s
  ·rw [room_yes cr]
   have := cr.1
   unfold GS.tot at *
   simp only [List.nil_append, List.length_singleton] at *
   omega
  ·rw [room_not cr]
   unfold GS.tot at *
   simp only [List.length_append, List.length_singleton] at *
   omega
theorem tot_drop {s : GS} {k : Int} : (dropS s k).tot ≤ s.tot := by
 unfold dropS GS.tot
 split
 ·have : (s.ko.erase k).length ≤ s.ko.length := List.erase_sublist.length_le
  show (s.ko.erase k).length + s.kn.length ≤ _
  omega
 ·have : (s.kn.erase k).length ≤ s.kn.length := List.erase_sublist.length_le
  show s.ko.length + (s.kn.erase k).length ≤ _
  omega
theorem drop_no {s : GS} {k : Int} (h1 : k ∉ s.ko) (h2 : k ∉ s.kn) : dropS s k = s := by
 have e : dropS s k = ⟨s.n, s.ko, s.kn.erase k, s.g⟩ := if_neg h1
 rw [e, List.erase_of_not_mem h2]
theorem gfin {C : Addr} {H : Hp} {t Ln : Addr} {oL : Option Addr} {r : Rl} {st : Nat} {s2 : GS} (ga : GrAt C H t Ln oL r st (movS s2 st)) (f : Gw.Fin (movS s2 st)) (ol : (movS s2 st).ko = [] → oL = none) (nd : s2.ko.Nodup) (h : s2.tot ≤ 40) : GrF C H t Ln oL r st (movS s2 st) := ⟨ga, f, ol, by rw [tot_mov nd]; exact h⟩
end SC
namespace SC
open PySem L2 PyProof.Rows Ly S40 Gw
theorem OwnAt.older {H : Hp} {d lo ln : Addr} {st : Nat} {s : GS} (h : OwnAt H d lo ln st s) : DGet H d (.str "older") (some (.ref lo)) := .inl ⟨_, .inr "older", .inl h.dd, rfl, rfl⟩
theorem OwnAt.newer {H : Hp} {d lo ln : Addr} {st : Nat} {s : GS} (h : OwnAt H d lo ln st s) : DGet H d (.str "newer") (some (.ref ln)) := .inl ⟨_, .inr "newer", .inl h.dd, rfl, rfl⟩
theorem OwnAt.size {H : Hp} {d lo ln : Addr} {st : Nat} {s : GS} (h : OwnAt H d lo ln st s) : DGet H d (.str "size") (some (.int s.n)) := .inl ⟨_, .inr "size", .inl h.dd, rfl, rfl⟩
theorem OwnAt.step {H : Hp} {d lo ln : Addr} {st : Nat} {s : GS} (h : OwnAt H d lo ln st s) : DGet H d (.str "step") (some (.int st)) := .inl ⟨_, .inr "step", .inl h.dd, rfl, rfl⟩
theorem OwnAt.gone {H : Hp} {d lo ln : Addr} {st : Nat} {s : GS} (h : OwnAt H d lo ln st s) : DGet H d (.str "gone") (some (.int s.g)) := .inl ⟨_, .inr "gone", .inl h.dd, rfl, rfl⟩
theorem OwnAt.same {H H' : Hp} {d lo ln : Addr} {st : Nat} {s : GS} (h : OwnAt H d lo ln st s) (sm : Same H H') : OwnAt H' d lo ln st s := ⟨sm _ _ h.dd, sm _ _ h.hlo, sm _ _ h.hln, h.ne⟩
theorem OwnAt.dl {H : Hp} {d lo ln : Addr} {st : Nat} {s : GS} (h : OwnAt H d lo ln st s) : lo ≠ d ∧ ln ≠ d := by
 constructor
 ·intro z
  have := h.hlo
  rw [z, h.dd] at this
  cases this
 ·intro z
  have := h.hln
  rw [z, h.dd] at this
  cases this
theorem own_put {H : Hp} {d : Addr} {kvs : List (Key × V)} {x : Str} {v : V} {kvs' : List (Key × V)} (h : H d = some (.dK kvs)) (hl : kvs.length < sizeLine) (e : putK kvs (.inr x) v = kvs') : DPut H d (.str x) v (upd H d (.dK kvs')) := .inl ⟨kvs, .inr x, h, rfl, hl, by rw [e]⟩
theorem put_n {s : GS} {k : Int} (h : s.n ≤ 106) (h2 : ¬ isIn s k → s.tot < 40) : (putS s k).n ≤ 106 := by
 by_cases c : isIn s k
 ·have e : putS s k = s := if_pos c
  rw [e]; exact h
 ·have e : putS s k = ⟨(room s).n, (room s).ko, (room s).kn ++ [k], s.g⟩ := if_neg c
  rw [e]
  by_cases cr : crowd s
  ·rw [room_yes cr]
   have h3 := h2 c
   have h4 := cr.2
   unfold GS.tot at h3
   show 2 * s.n ≤ 106
   omega
  ·rw [room_not cr]; exact h
noncomputable def spLayG : Sp := fun vs H Q _ => ∃ (v : V) (r : Rl) (n : Nat) (p : Addr) (ks : List Int) (F : Nat → Option Int), vs = [v, .int n, .ref p] ∧ RlIn H v r n ∧ (n ≤ 1000 ∧ ks.length < 64) ∧ H p = some (.lst (ks.map V.int)) ∧ ks.Nodup ∧ (∀ k ∈ ks, 0 ≤ k ∧ k ≤ 999999) ∧ ks.length < n ∧ RowOk r n F ∧ (∀ x, hasR n F x ↔ x ∈ ks) ∧ ∀ l H', Same H H' → H' l = some (.lst (ringL n F)) → Q (.ref l) H'
noncomputable def InvLm (H2 : Hp) (d lo ln : Addr) (st : Nat) (g : GS) (ms : List Int) (j : Nat) (σ : L2.St) (H' : Hp) : Prop := ∃ x, σ = [some (.ref d), x] ∧ OwnAt H' d lo ln st (goneS g ms j) ∧ Fr H2 H' [d, lo, ln] [d, lo, ln]
theorem SameX.set {x : Addr} {H H' : Hp} (h : SameX x H H') (o : HO) : SameX x H (upd H' x o) := fun b u hb hu => by rw [upd_ne hb]; exact h b u hb hu
theorem SameX.more {x : Addr} {H H' H'' : Hp} (h : SameX x H H') (s : Same H' H'') : SameX x H H'' := fun b u hb hu => s b u (h b u hb hu)
theorem RlAt.sameX {x C dx : Addr} {fs : List (Str × V)} {H H' : Hp} {v : V} {r : Rl} (hx : H x = some (.ins C dx fs)) (h : SameX x H H') (ra : RlAt H v r) : RlAt H' v r := by
 have go : ∀ p ys, H p = some (.tup ys) → H' p = some (.tup ys) := fun p ys hp => h p _ (fun z => by rw [z, hx] at hp; cases hp) hp
 cases r with
 | times a b => obtain ⟨p, e, h⟩ := ra; exact ⟨p, e, go _ _ h⟩
 | high a b => obtain ⟨p, e, h⟩ := ra; exact ⟨p, e, go _ _ h⟩
 | told ns => obtain ⟨p, q, e, h, h'⟩ := ra; exact ⟨p, q, e, go _ _ h, go _ _ h'⟩
theorem fin_new {n : Nat} (h : 2 ≤ n) : Gw.Fin ⟨n, [], [], 0⟩ := ⟨⟨List.nodup_nil, (fun _ h => nomatch h), by simp, h, fun z => absurd rfl z⟩, fun z => absurd rfl z⟩
end SC
namespace SC
open PySem L2 PyProof.Rows Ly S40 Gw
theorem op_nd {w : Nat} {s : GS} {k : Int} (nd : (s.ko ++ s.kn).Nodup) : (opS w s k).ko.Nodup := by
 have n := List.nodup_append.mp nd
 unfold opS
 split
 ·unfold putS room
  split
  ·exact n.1
  ·split
   ·exact n.2.1
   ·exact n.1
 ·split
  ·unfold dropS
   split
   ·exact n.1.erase k
   ·exact n.1
  ·exact n.1
theorem op_tot {w : Nat} {s : GS} {k : Int} (h : s.tot ≤ 40) (h2 : ¬ isIn s k → s.tot < 40) : (opS w s k).tot ≤ 40 := by
 unfold opS
 split
 ·exact tot_put h h2
 ·split
  ·exact Nat.le_trans tot_drop h
  ·exact h
theorem room_kn {s : GS} : (room s).kn.length ≤ s.kn.length ∧ (room s).g = s.g := by
 unfold room
 split
 ·exact ⟨Nat.zero_le _, rfl⟩
 ·exact ⟨Nat.le_refl _, rfl⟩
end SC
namespace SC
open PySem L2 PyProof.Rows Ly S40 Gw
theorem ring_alike {K : PySem.W.Frag} {H : Hp} {a b : Addr} {r : Rl} {n : Nat} {ks : List Int} {F G : Nat → Option Int} (rk : r.Ok) (n2 : 2 ≤ n) (x : RingAt H a r n ks F) (y : RingAt H b r n ks G) : Alike K H 2 (.ref a) (.ref b) := by
 have e := row_one rk n2 x.ok y.ok x.has y.has
 refine .inr ⟨a, b, ringL n F, ringL n F, rfl, rfl, .inl ⟨SqL.of x.pl, SqL.of (by rw [← e]; exact y.pl)⟩, rfl, fun j u w h1 h2 => .inl ⟨Option.some.inj (h1.symm.trans h2), ?_⟩⟩
 exact List.all_eq_true.mp (ringL_flat n F) u (List.mem_of_getElem? h1)
theorem lays_alike {K : PySem.W.Frag} {H : Hp} {p q : Addr} {r : Rl} {s : GS} (rk : r.Ok) (n2 : 2 ≤ s.n) (x : LaysAt H p r s) (y : LaysAt H q r s) : ∃ xs ys, H p = some (.tup xs) ∧ H q = some (.tup ys) ∧ xs.length = ys.length ∧ ∀ (j : Nat) (a b : V), xs[j]? = some a → ys[j]? = some b → Alike K H 2 a b := by
 obtain ⟨x1, b1, F1, hp, r1, n1, o1⟩ := x.ex
 obtain ⟨x2, b2, F2, hq, r2, n3, o2⟩ := y.ex
 refine ⟨_, _, hp, hq, rfl, fun j a b h1 h2 => ?_⟩
 have hj : j < 2 := (List.getElem?_eq_some_iff.mp h1).1
 have hj2 : j = 0 ∨ j = 1 := by omega
 rcases hj2 with rfl | rfl
 ·have h1 := Option.some.inj h1
  have h2 := Option.some.inj h2
  subst h1 h2
  by_cases c : s.ko = []
  ·rw [n1 c, n3 c]
   exact .inl ⟨rfl, rfl⟩
  ·obtain ⟨a1, m1, G1, e1, hm1, hm2, ra⟩ := o1 c
   obtain ⟨a2, m2, G2, e2, hm3, hm4, rb⟩ := o2 c
   have em : m1 = m2 := by omega
   subst em
   rw [e1, e2]
   exact ring_alike rk hm2 ra rb
 ·have h1 := Option.some.inj h1
  have h2 := Option.some.inj h2
  subst h1 h2
  exact ring_alike rk n2 r1 r2
theorem mov_g (s : GS) (st : Nat) : (movS s st).g ≤ s.g + st ∧ (movS s st).n = s.n := by
 have := mvs_len s st
 refine ⟨?_, rfl⟩
 show s.g + (mvs s st).length ≤ s.g + st
 omega
theorem op_g {w : Nat} {s : GS} {k : Int} : (opS w s k).g = s.g := by
 unfold opS putS dropS
 split
 ·split
  ·rfl
  ·rfl
 ·split
  ·split <;> rfl
  ·rfl
theorem op_n {w : Nat} {s : GS} {k : Int} (h : s.n ≤ 106) (h2 : ¬ isIn s k → s.tot < 40) : (opS w s k).n ≤ 106 := by
 unfold opS
 split
 ·exact put_n h h2
 ·split
  ·unfold dropS
   split <;> exact h
  ·exact h
theorem op_sub {w : Nat} {s : GS} {k : Int} {pool : List Int} (h : ∀ x ∈ s.ko ++ s.kn, x ∈ pool) (hk : k ∈ pool) : ∀ x ∈ (opS w s k).ko ++ (opS w s k).kn, x ∈ pool := by
 have ho : ∀ x ∈ s.ko, x ∈ pool := fun x hx => h x (List.mem_append.mpr (.inl hx))
 have hn : ∀ x ∈ s.kn, x ∈ pool := fun x hx => h x (List.mem_append.mpr (.inr hx))
 have one : ∀ x ∈ [k], x ∈ pool := fun x hx => by rw [List.mem_singleton] at hx; rw [hx]; exact hk
 have app : ∀ {l m : List Int}, (∀ x ∈ l, x ∈ pool) → (∀ x ∈ m, x ∈ pool) → ∀ x ∈ l ++ m, x ∈ pool := fun a b x hx => (List.mem_append.mp hx).elim (a x) (b x)
 unfold opS
 split
 ·unfold putS room
  split
  ·exact h
  ·split
   ·exact app hn (app (fun x hx => nomatch hx) one)
   ·exact app ho (app hn one)
 ·split
  ·unfold dropS
   split
   ·exact app (fun x hx => ho x (List.mem_of_mem_erase hx)) hn
   ·exact app ho (fun x hx => hn x (List.mem_of_mem_erase hx))
  ·exact h
theorem mov_sub {s : GS} {st : Nat} {pool : List Int} (nd : s.ko.Nodup) (h : ∀ x ∈ s.ko ++ s.kn, x ∈ pool) : ∀ x ∈ (movS s st).ko ++ (movS s st).kn, x ∈ pool := fun x hx => h x ((gone_perm (mvs_nd nd) mvs_mem).mem_iff.mp hx)
theorem in40 {s : GS} {k : Int} {pool : List Int} (nd : (s.ko ++ s.kn).Nodup) (h : ∀ x ∈ s.ko ++ s.kn, x ∈ pool) (hk : k ∈ pool) (hl : pool.length = 40) (hin : ¬ isIn s k) : s.tot < 40 := by
 have n : (k :: (s.ko ++ s.kn)).Nodup := List.nodup_cons.mpr ⟨fun z => hin (List.mem_append.mp z), nd⟩
 have := n.length_le_of_subset (l₂ := pool) (fun x hx => (List.mem_cons.mp hx).elim (fun z => by rw [z]; exact hk) (h x))
 rw [List.length_cons, List.length_append, hl] at this
 unfold GS.tot
 omega
structure GI (C : Addr) (Hb H : Hp) (t d : Addr) (r : Rl) (st : Nat) (pool : List Int) (Ln : Addr) (oL : Option Addr) (lo ln : Addr) (s s' : GS) : Prop where
 hg : Hid Hb H (mutG t Ln oL)
 ho : Hid Hb H [d, lo, ln]
 gf : GrF C H t Ln oL r st s
 ow : OwnAt H d lo ln st s'
 sep : ∀ b ∈ mutG t Ln oL, b ∉ [d, lo, ln]
theorem GI.same {C : Addr} {Hb H H' : Hp} {t d : Addr} {r : Rl} {st : Nat} {pool : List Int} {Ln : Addr} {oL : Option Addr} {lo ln : Addr} {s s' : GS} (h : GI C Hb H t d r st pool Ln oL lo ln s s') (sm : Same H H') : GI C Hb H' t d r st pool Ln oL lo ln s s' := ⟨h.hg.new sm, h.ho.new sm, h.gf.same sm, h.ow.same sm, h.sep⟩
theorem GI.own {C : Addr} {Hb H H' : Hp} {t d : Addr} {r : Rl} {st : Nat} {pool : List Int} {Ln : Addr} {oL : Option Addr} {lo ln lo' ln' : Addr} {s s' s2 : GS} (h : GI C Hb H t d r st pool Ln oL lo ln s s') (ow : OwnAt H' d lo' ln' st s2) (f : Fr H H' [d, lo, ln] [d, lo', ln']) : GI C Hb H' t d r st pool Ln oL lo' ln' s s2 := by
 have ho := f Hb h.ho
 obtain ⟨g1, g2⟩ := h.gf.at_.frame h.sep (fun b zs hb z => by
  simp only [List.mem_cons, List.not_mem_nil, or_false] at z
  rcases z with rfl | rfl | rfl
  ·rw [h.ow.dd] at hb; cases hb
  ·rw [h.ow.hlo] at hb; cases hb
  ·rw [h.ow.hln] at hb; cases hb) f
 exact ⟨⟨ho.1, h.hg.2⟩, ho, ⟨g1, h.gf.fin, h.gf.ol, h.gf.tot⟩, ow, g2⟩
theorem GI.deed {C : Addr} {Hb H H' : Hp} {t d : Addr} {r : Rl} {st : Nat} {pool : List Int} {Ln Ln' : Addr} {oL oL' : Option Addr} {lo ln : Addr} {s s' s2 : GS} (h : GI C Hb H t d r st pool Ln oL lo ln s s') (gf : GrF C H' t Ln' oL' r st s2) (f : Fr H H' (mutG t Ln oL) (mutG t Ln' oL')) : GI C Hb H' t d r st pool Ln' oL' lo ln s2 s' := by
 have hg := f Hb h.hg
 have n1 : d ∉ mutG t Ln oL := fun z => h.sep d z (by simp)
 have n2 : lo ∉ mutG t Ln oL := fun z => h.sep lo z (by simp)
 have n3 : ln ∉ mutG t Ln oL := fun z => h.sep ln z (by simp)
 refine ⟨hg, ⟨hg.1, h.ho.2⟩, gf, ⟨fr_keep f n1 h.ow.dd, fr_keep f n2 h.ow.hlo, fr_keep f n3 h.ow.hln, h.ow.ne⟩, fun b hb z => ?_⟩
 have e := (f _ (hid_ok H (mutG t Ln oL))).2 b hb
 simp only [List.mem_cons, List.not_mem_nil, or_false] at z
 rcases z with rfl | rfl | rfl
 ·rw [hid_at n1, h.ow.dd] at e; cases e
 ·rw [hid_at n2, h.ow.hlo] at e; cases e
 ·rw [hid_at n3, h.ow.hln] at e; cases e
noncomputable def st60 (a : Addr) (m : Int) (v : V) (d t pl : Addr) (v6 v7 v8 v9 v10 v11 v12 v13 : Option V) : L2.St := [some (.ref a), some (.int m), some v, some (.ref d), some (.ref t), some (.ref pl), v6, v7, v8, v9, v10, v11, v12, v13]
noncomputable def InvG (mk : Option V → Option V → Option V → Option V → Option V → Option V → Option V → Option V → L2.St) (C : Addr) (Hb : Hp) (t d : Addr) (r : Rl) (st : Nat) (pool : List Int) (_ : Nat) (σ : L2.St) (H' : Hp) : Prop :=
 ∃ v6 v7 v8 v9 v10 v11 v12 v13 Ln oL lo ln s, σ = mk v6 v7 v8 v9 v10 v11 v12 v13 ∧ GI C Hb H' t d r st pool Ln oL lo ln s s ∧ (∀ k ∈ s.ko ++ s.kn, k ∈ pool) ∧ s.n ≤ 106
theorem rng25 (L : Int) (h : 0 ≤ L) : 25 ≤ (if (if L < 60 then L else 60) > 25 then (if L < 60 then L else 60) else 25) ∧ (if (if L < 60 then L else 60) > 25 then (if L < 60 then L else 60) else 25) ≤ 60 := by
 split <;> split <;> omega
end SC
namespace SC
open PySem L2 PyProof.Rows Ly S40 Gw
theorem hid_of {H0 H : Hp} {as : List Addr} (s : Same H0 H) (h : ∀ b ∈ as, H0 b = none) : Same H0 (hid H as) := fun b u hb => by
 rw [hid_at (fun z => by rw [h b z] at hb; cases hb)]
 exact s b u hb
theorem hid_sub {H : Hp} {as bs : List Addr} (h : ∀ b ∈ bs, b ∈ as) : Hid (hid H as) H bs := ⟨(hid_ok H as).1, fun b hb => (hid_ok H as).2 b (h b hb)⟩
end SC
namespace SC
open PySem L2 PyProof.Rows Ly S40 Gw
theorem LaysAt.same {H H' : Hp} {p : Addr} {r : Rl} {s : GS} (h : LaysAt H p r s) (sm : Same H H') : LaysAt H' p r s := by
 obtain ⟨x, b, F, hp, rg, h1, h2⟩ := h.ex
 exact ⟨⟨x, b, F, sm _ _ hp, rg.same sm, h1, fun z => let ⟨a, m, F1, e, c, d, ro⟩ := h2 z; ⟨a, m, F1, e, c, d, ro.same sm⟩⟩⟩
end SC
namespace S60
open PySem L2 SC PyProof.Rows
noncomputable def top (i : Nat) : Stmt := PySem.Challenge.pw_strewn_k60_whole_growing.main.body.getD i (.Pass ⟨0, 0, 0, 0⟩)
structure Tx (K : PySem.W.Frag) (mg : Str → Option Value) (cl : CN → Addr) : Prop where
 nisinstance : mg "isinstance" = none
 nbool : mg "bool" = none
 nint : mg "int" = none
 nlen : mg "len" = none
 ntuple : mg "tuple" = none
 nstr : mg "str" = none
 nall : mg "all" = none
 nsum : mg "sum" = none
 nmax : mg "max" = none
 nmin : mg "min" = none
 nrange : mg "range" = none
 nlist : mg "list" = none
 nsorted : mg "sorted" = none
 nValueError : mg "ValueError" = none
 cMOST_KEY : ∃ u, mg "MOST_KEY" = some u ∧ RelV (.int 999999) u
 cLEAST_SIZE : ∃ u, mg "LEAST_SIZE" = some u ∧ RelV (.int 2) u
 cMOST_SIZE : ∃ u, mg "MOST_SIZE" = some u ∧ RelV (.int 64) u
 cMOST_FACTOR : ∃ u, mg "MOST_FACTOR" = some u ∧ RelV (.int 999999) u
 cLEAST_BITS : ∃ u, mg "LEAST_BITS" = some u ∧ RelV (.int 1) u
 cMOST_BITS : ∃ u, mg "MOST_BITS" = some u ∧ RelV (.int 30) u
 cMOST_TOLD : ∃ u, mg "MOST_TOLD" = some u ∧ RelV (.int 999) u
 cLEAST_TOLD_COUNT : ∃ u, mg "LEAST_TOLD_COUNT" = some u ∧ RelV (.int 1) u
 cMOST_TOLD_COUNT : ∃ u, mg "MOST_TOLD_COUNT" = some u ∧ RelV (.int 64) u
 cLEAST_STEP : ∃ u, mg "LEAST_STEP" = some u ∧ RelV (.int 1) u
 cMOST_STEP : ∃ u, mg "MOST_STEP" = some u ∧ RelV (.int 4) u
 cMOST_GROWN : ∃ u, mg "MOST_GROWN" = some u ∧ RelV (.int 1024) u
 mStrewError : mg "StrewError" = some (.ref (cl .StrewError))
 xStrewError : ExcC K (cl .StrewError)
 mBadRule : mg "BadRule" = some (.ref (cl .BadRule))
 xBadRule : ExcC K (cl .BadRule)
 mBadKey : mg "BadKey" = some (.ref (cl .BadKey))
 xBadKey : ExcC K (cl .BadKey)
 mBadSize : mg "BadSize" = some (.ref (cl .BadSize))
 xBadSize : ExcC K (cl .BadSize)
 mFull : mg "Full" = some (.ref (cl .Full))
 xFull : ExcC K (cl .Full)
 mTooMany : mg "TooMany" = some (.ref (cl .TooMany))
 xTooMany : ExcC K (cl .TooMany)
 wd0 : Wd K cl (cl .BadRule) 0
 wd1 : Wd K cl (cl .BadKey) 1
 wd2 : Wd K cl (cl .BadSize) 2
 wd3 : Wd K cl (cl .Full) 3
 wd4 : Wd K cl (cl .TooMany) 4
 nGrowing_moves_each : NoAttr K (cl .Growing) "moves_each"
 nGrowing_moves_so_far : NoAttr K (cl .Growing) "moves_so_far"
 nGrowing_newer : NoAttr K (cl .Growing) "newer"
 nGrowing_older : NoAttr K (cl .Growing) "older"
 nGrowing_rule : NoAttr K (cl .Growing) "rule"
 clGrowing : Cls K (cl .Growing)
 mGrowing : mg "Growing" = some (.ref (cl .Growing))
end S60
namespace S60
open PySem L2 SC PyProof.Rows S40 Ly Gw
theorem sc_power : FnScope ["base", "exponent", "told", "step"] ["base", "exponent"] (defScope (top 8)) := ⟨rfl, rfl, rfl, by decide +kernel, rfl, by decide +kernel, by decide +kernel⟩
theorem v_power : Vs ["base", "exponent", "told", "step"] (defScope (top 8)) := Vs.of (by decide +kernel)
theorem l_power : Ls ["base", "exponent", "told", "step"] (defScope (top 8)) := Ls.of sc_power.nd (by decide +kernel)
theorem g_power : Gs ["range"] (defScope (top 8)) := Gs.of (by decide +kernel)
theorem ok_power {P : Program} {w : World} {K : PySem.W.Frag} {mg : Str → Option Value} {base : Heap} {f : Addr} {fd : FuncData} {cl : CN → Addr} (F : Fun K "power" "power" (top 8) f fd) (T : Tx K mg cl) :
  FnOk P w K mg base (CX1 P w) true 1 f fd ["base", "exponent"] (spPow) := by
 have S := sc_power
 have Vv := v_power
 have Lo := l_power
 have Gg := g_power
 refine F.ok S (fun vs H Q E h => ?_) (fun cdv A outer s H vs Q E hx hcx hh hr D h => ?_)
 ·obtain ⟨b, e, rfl, _⟩ := h; rfl
 obtain ⟨b, e, rfl, ⟨b0, b1⟩, ⟨e0, e1⟩, q⟩ := h
 have hp := passesXE (E := E) D
 refine ⟨_, (pss_cons (set_v (i := 2) Lo pe_int)
  (pss_cons (ps_for hp (iR1 (i := 0) Gg T.nrange (pa_cons (vn Vv 1) pa_nil)) (tgt_v (i := 3) Lo)
  (pss_one (set_v (i := 2) Lo (pe_op op_mulA (vn Vv 2) (vn Vv 0)))))
  (pss_one (ps_ret (vn Vv 2))))), ?_⟩
 refine ⟨_, rfl, e, rfl, by omega, by omega, for_range (n := e.toNat) (fun i σ H2 => ∃ v, σ = [some (.int b), some (.int e), some (.int (b ^ i)), v] ∧ H2 = H) ⟨none, by rw [Int.pow_zero]; rfl, rfl⟩ (fun i σ H2 hi ⟨v, z1, z2⟩ => ?_) (fun σ H2 ⟨v, z1, z2⟩ => ?_)⟩
 ·subst z1 z2
  refine ⟨_, rfl, _, rfl, _, _, rfl, rfl, mulC b0 b1, some (.int (0 + i)), ?_, rfl⟩
  rw [Int.pow_succ]
  rfl
 ·subst z1 z2
  exact ⟨_, rfl, q⟩
end S60
namespace S60
open PySem L2 SC PyProof.Rows S40 Ly Gw
theorem sc_is_whole : FnScope ["thing", "least", "most"] ["thing", "least", "most"] (defScope (top 19)) := ⟨rfl, rfl, rfl, by decide +kernel, rfl, by decide +kernel, by decide +kernel⟩
theorem v_is_whole : Vs ["thing", "least", "most"] (defScope (top 19)) := Vs.of (by decide +kernel)
theorem l_is_whole : Ls ["thing", "least", "most"] (defScope (top 19)) := Ls.of sc_is_whole.nd (by decide +kernel)
theorem g_is_whole : Gs ["isinstance", "bool", "int"] (defScope (top 19)) := Gs.of (by decide +kernel)
theorem ok_is_whole {P : Program} {w : World} {K : PySem.W.Frag} {mg : Str → Option Value} {base : Heap} {f : Addr} {fd : FuncData} {cl : CN → Addr} (F : Fun K "is_whole" "is_whole" (top 19) f fd) (T : Tx K mg cl) :
  FnOk P w K mg base (CX1 P w) true 1 f fd ["thing", "least", "most"] (spWhole) := by
 have S := sc_is_whole
 have Vv := v_is_whole
 have Lo := l_is_whole
 have Gg := g_is_whole
 refine F.ok S (fun vs H Q E h => ?_) (fun cdv A outer s H vs Q E hx hcx hh hr D h => ?_)
 ·obtain ⟨x, lo, hi, T, rfl, _⟩ := h; rfl
 obtain ⟨x, lo, hi, ty, rfl, hk, q⟩ := h
 refine ⟨_, (pss_cons (ps_if (PW.pt (pw_or (pt_val (cB (i := 0) Gg (call_isi) T.nisinstance bt_isinstance (pa_cons (vn Vv 0) (pa_cons (nTy (i := 1) Gg T.nbool bt_bool) pa_nil)))) (pw_or1 (pt_not (pt_val (cB (i := 0) Gg (call_isi) T.nisinstance bt_isinstance (pa_cons (vn Vv 0) (pa_cons (nTy (i := 2) Gg T.nint bt_int) pa_nil)))))))) (pss_one (ps_ret pe_bl)) pss_nil)
  (pss_one (ps_ret (pe_chain op_le op_le (vn Vv 1) (vn Vv 0) (vn Vv 2))))), ?_⟩
 refine ⟨_, rfl, _, _, _, _, rfl, hk.ty, kit_bool ty, _, rfl, ?_⟩
 cases hk with
 | bl b => exact iteT (iteT q)
 | int i =>
  refine iteF ⟨_, rfl, _, _, _, _, rfl, (Kn.int i).ty, kit_int .int, _, rfl, iteF ?_⟩
  refine ⟨_, rfl, _, rfl, _, _, rfl, rfl, _, rfl, ite2 (fun c => ⟨_, rfl, _, _, rfl, rfl, ?_⟩) fun c => ?_⟩
  ·have q' : Q (.bl (decide (lo ≤ i) && decide (i ≤ hi))) H := q
   rw [c, Bool.true_and] at q'
   exact q'
  ·have q' : Q (.bl (decide (lo ≤ i) && decide (i ≤ hi))) H := q
   rw [Bool.eq_false_iff.mpr c, Bool.false_and] at q'
   exact q'
 | non => exact iteF ⟨_, rfl, _, _, _, _, rfl, Kn.non.ty, kit_int .non, _, rfl, iteT q⟩
 | str z => exact iteF ⟨_, rfl, _, _, _, _, rfl, (Kn.str z).ty, kit_int .str, _, rfl, iteT q⟩
 | lst e => exact iteF ⟨_, rfl, _, _, _, _, rfl, (Kn.lst e).ty, kit_int .lst, _, rfl, iteT q⟩
 | tup e => exact iteF ⟨_, rfl, _, _, _, _, rfl, (Kn.tup e).ty, kit_int .tup, _, rfl, iteT q⟩
end S60
namespace S60
open PySem L2 SC PyProof.Rows S40 Ly Gw
theorem sc_is_times_rule : FnScope ["rule"] ["rule"] (defScope (top 20)) := ⟨rfl, rfl, rfl, by decide +kernel, rfl, by decide +kernel, by decide +kernel⟩
theorem v_is_times_rule : Vs ["rule"] (defScope (top 20)) := Vs.of (by decide +kernel)
theorem l_is_times_rule : Ls ["rule"] (defScope (top 20)) := Ls.of sc_is_times_rule.nd (by decide +kernel)
theorem g_is_times_rule : Gs ["len", "is_whole", "MOST_FACTOR"] (defScope (top 20)) := Gs.of (by decide +kernel)
theorem ok_is_times_rule {P : Program} {w : World} {K : PySem.W.Frag} {mg : Str → Option Value} {base : Heap} {f : Addr} {fd : FuncData} {cl : CN → Addr} (F : Fun K "is_times_rule" "is_times_rule" (top 20) f fd) (T : Tx K mg cl) (O_is_whole : Own P w K mg base true 1 "is_whole" ["thing", "least", "most"] (spWhole)) :
  FnOk P w K mg base (CX1 P w) true 2 f fd ["rule"] (spTimes) := by
 have S := sc_is_times_rule
 have Vv := v_is_times_rule
 have Lo := l_is_times_rule
 have Gg := g_is_times_rule
 refine F.ok S (fun vs H Q E h => ?_) (fun cdv A outer s H vs Q E hx hcx hh hr D h => ?_)
 ·obtain ⟨p, xs, rfl, _⟩ := h; rfl
 obtain ⟨p, xs, rfl, hp, hk, q⟩ := h
 refine ⟨_, (pss_one (ps_ret (pe_and (pe_cmpR op_eq (cB (i := 0) Gg (call_len_seq) T.nlen bt_len (pa_cons (vn Vv 0) pa_nil)) pe_int (nomark _)) (pe_and (cOwn (i := 1) Gg O_is_whole (hr.mono (by decide)) passX (pa_cons (pe_ix ix_tup (vn Vv 0) pe_int (fun _ _ => rfl)) (pa_cons pe_int (pa_cons (nCon (i := 2) Gg T.cMOST_FACTOR) pa_nil)))) (pe_one (cOwn (i := 1) Gg O_is_whole (hr.mono (by decide)) passX (pa_cons (pe_ix ix_tup (vn Vv 0) pe_int (fun _ _ => rfl)) (pa_cons pe_int (pa_cons (nCon (i := 2) Gg T.cMOST_FACTOR) pa_nil))))))))), ?_⟩
 refine ⟨_, rfl, p, xs, rfl, .inr (SqT.of hp), rfl, _, rfl, ite2 (fun c => ?_) fun c => ?_⟩
 ·have c' : xs.length = 3 := by have := V.int.inj (of_decide_eq_true c); omega
  obtain ⟨x0, x1, x2, rfl⟩ := len3 c'
  obtain ⟨T1, k1⟩ := hk x1 (by simp)
  obtain ⟨T2, k2⟩ := hk x2 (by simp)
  refine ⟨_, rfl, p, _, _, x1, rfl, rfl, SqT.of hp, rfl, x1, 0, 999999, T1, rfl, k1, _, rfl, ite2 (fun c1 => ?_) fun c1 => ?_⟩
  ·refine ⟨_, rfl, p, _, _, x2, rfl, rfl, SqT.of hp, rfl, x2, 0, 999999, T2, rfl, k2, ?_⟩
   have q' : Q (.bl (wholeV x1 0 999999 && wholeV x2 0 999999)) H := q
   rw [c1, Bool.true_and] at q'
   exact q'
  ·have q' : Q (.bl (wholeV x1 0 999999 && wholeV x2 0 999999)) H := q
   rw [Bool.eq_false_iff.mpr c1, Bool.false_and] at q'
   exact q'
 ·rw [isTimes_no (fun e => c (decide_eq_true (by rw [e]; rfl)))] at q
  exact q
end S60
namespace S60
open PySem L2 SC PyProof.Rows S40 Ly Gw
theorem sc_is_high_rule : FnScope ["rule"] ["rule"] (defScope (top 21)) := ⟨rfl, rfl, rfl, by decide +kernel, rfl, by decide +kernel, by decide +kernel⟩
theorem v_is_high_rule : Vs ["rule"] (defScope (top 21)) := Vs.of (by decide +kernel)
theorem l_is_high_rule : Ls ["rule"] (defScope (top 21)) := Ls.of sc_is_high_rule.nd (by decide +kernel)
theorem g_is_high_rule : Gs ["len", "is_whole", "MOST_FACTOR", "LEAST_BITS", "MOST_BITS"] (defScope (top 21)) := Gs.of (by decide +kernel)
theorem ok_is_high_rule {P : Program} {w : World} {K : PySem.W.Frag} {mg : Str → Option Value} {base : Heap} {f : Addr} {fd : FuncData} {cl : CN → Addr} (F : Fun K "is_high_rule" "is_high_rule" (top 21) f fd) (T : Tx K mg cl) (O_is_whole : Own P w K mg base true 1 "is_whole" ["thing", "least", "most"] (spWhole)) :
  FnOk P w K mg base (CX1 P w) true 2 f fd ["rule"] (spHigh) := by
 have S := sc_is_high_rule
 have Vv := v_is_high_rule
 have Lo := l_is_high_rule
 have Gg := g_is_high_rule
 refine F.ok S (fun vs H Q E h => ?_) (fun cdv A outer s H vs Q E hx hcx hh hr D h => ?_)
 ·obtain ⟨p, xs, rfl, _⟩ := h; rfl
 obtain ⟨p, xs, rfl, hp, hk, q⟩ := h
 refine ⟨_, (pss_one (ps_ret (pe_and (pe_cmpR op_eq (cB (i := 0) Gg (call_len_seq) T.nlen bt_len (pa_cons (vn Vv 0) pa_nil)) pe_int (nomark _)) (pe_and (cOwn (i := 1) Gg O_is_whole (hr.mono (by decide)) passX (pa_cons (pe_ix ix_tup (vn Vv 0) pe_int (fun _ _ => rfl)) (pa_cons pe_int (pa_cons (nCon (i := 2) Gg T.cMOST_FACTOR) pa_nil)))) (pe_one (cOwn (i := 1) Gg O_is_whole (hr.mono (by decide)) passX (pa_cons (pe_ix ix_tup (vn Vv 0) pe_int (fun _ _ => rfl)) (pa_cons (nCon (i := 3) Gg T.cLEAST_BITS) (pa_cons (nCon (i := 4) Gg T.cMOST_BITS) pa_nil))))))))), ?_⟩
 refine ⟨_, rfl, p, xs, rfl, .inr (SqT.of hp), rfl, _, rfl, ite2 (fun c => ?_) fun c => ?_⟩
 ·have c' : xs.length = 3 := by have := V.int.inj (of_decide_eq_true c); omega
  obtain ⟨x0, x1, x2, rfl⟩ := len3 c'
  obtain ⟨T1, k1⟩ := hk x1 (by simp)
  obtain ⟨T2, k2⟩ := hk x2 (by simp)
  refine ⟨_, rfl, p, _, _, x1, rfl, rfl, SqT.of hp, rfl, x1, 0, 999999, T1, rfl, k1, _, rfl, ite2 (fun c1 => ?_) fun c1 => ?_⟩
  ·refine ⟨_, rfl, p, _, _, x2, rfl, rfl, SqT.of hp, rfl, x2, 1, 30, T2, rfl, k2, ?_⟩
   have q' : Q (.bl (wholeV x1 0 999999 && wholeV x2 1 30)) H := q
   rw [c1, Bool.true_and] at q'
   exact q'
  ·have q' : Q (.bl (wholeV x1 0 999999 && wholeV x2 1 30)) H := q
   rw [Bool.eq_false_iff.mpr c1, Bool.false_and] at q'
   exact q'
 ·rw [isHigh_no (fun e => c (decide_eq_true (by rw [e]; rfl)))] at q
  exact q
end S60
namespace S60
open PySem L2 SC PyProof.Rows S40 Ly Gw
theorem sc_is_told_rule : FnScope ["rule"] ["rule"] (defScope (top 22)) := ⟨rfl, rfl, rfl, by decide +kernel, rfl, by decide +kernel, by decide +kernel⟩
theorem v_is_told_rule : Vs ["rule"] (defScope (top 22)) := Vs.of (by decide +kernel)
theorem l_is_told_rule : Ls ["rule"] (defScope (top 22)) := Ls.of sc_is_told_rule.nd (by decide +kernel)
theorem g_is_told_rule : Gs ["len", "isinstance", "tuple", "LEAST_TOLD_COUNT", "MOST_TOLD_COUNT", "all"] (defScope (top 22)) := Gs.of (by decide +kernel)
theorem ok_is_told_rule {P : Program} {w : World} {K : PySem.W.Frag} {mg : Str → Option Value} {base : Heap} {f : Addr} {fd : FuncData} {cl : CN → Addr} (F : Fun K "is_told_rule" "is_told_rule" (top 22) f fd) (T : Tx K mg cl) (O_is_whole : Own P w K mg base true 1 "is_whole" ["thing", "least", "most"] (spWhole)) :
  FnOk P w K mg base (CX1 P w) true 2 f fd ["rule"] (spTold) := by
 have S := sc_is_told_rule
 have Vv := v_is_told_rule
 have Lo := l_is_told_rule
 have Gg := g_is_told_rule
 refine F.ok S (fun vs H Q E h => ?_) (fun cdv A outer s H vs Q E hx hcx hh hr D h => ?_)
 ·obtain ⟨p, xs, rfl, _⟩ := h; rfl
 obtain ⟨p, xs, rfl, hp, hk, q⟩ := h
 refine ⟨_, (pss_cons (ps_if (PW.pt (pw_or (pt_cmpR op_ne (cB (i := 0) Gg (call_len_seq) T.nlen bt_len (pa_cons (vn Vv 0) pa_nil)) pe_int (nomark _)) (pw_or1 (pt_not (pt_val (cB (i := 1) Gg (call_isi) T.nisinstance bt_isinstance (pa_cons (pe_ix ix_tup (vn Vv 0) pe_int (fun _ _ => rfl)) (pa_cons (nTy (i := 2) Gg T.ntuple bt_tuple) pa_nil)))))))) (pss_one (ps_ret pe_bl)) pss_nil)
  (pss_cons (ps_if (pt_not (pt_chain op_le op_le (nCon (i := 3) Gg T.cLEAST_TOLD_COUNT) (cB (i := 0) Gg (call_len_seq) T.nlen bt_len (pa_cons (pe_ix ix_tup (vn Vv 0) pe_int (fun _ _ => rfl)) pa_nil)) (nCon (i := 4) Gg T.cMOST_TOLD_COUNT))) (pss_one (ps_ret pe_bl)) pss_nil)
  (pss_one (ps_ret (cB (i := 5) Gg (call_all) T.nall bt_all (pa_cons (cmp (Nc := ["number"]) (caps := [none]) (j := 0) (N := ["rule"]) (sc := defScope (top 22)) (Lc := ["is_whole", "MOST_TOLD"]) ⟨rfl, by decide +kernel, by decide +kernel, by decide +kernel, rfl, by decide +kernel, by decide +kernel, rfl, rfl, by decide +kernel⟩ (pi_tup (pe_ix ix_tup (vn Vv 0) pe_int (fun _ _ => rfl))) (fun _ _ _ _ _ _ Vv Gg => pf_nil) (fun _ _ _ _ _ _ Vv Gg => (cOwn (i := 0) Gg O_is_whole (hr.mono (by decide)) passN (pa_cons (vn Vv 0) (pa_cons pe_int (pa_cons (nCon (i := 1) Gg T.cMOST_TOLD) pa_nil)))))) pa_nil)))))), ?_⟩
 refine ⟨_, rfl, p, xs, rfl, .inr (SqT.of hp), rfl, _, rfl, ite2 (fun c => ?_) fun c => ?_⟩
 ·refine iteT ?_
  have e : xs.length ≠ 2 := fun e => by
   rw [e] at c
   exact absurd c (by decide)
  rw [isTold_no e] at q
  exact q H (Same.refl H)
 ·have c' : xs.length = 2 := by
   by_cases e : xs.length = 2
   ·exact e
   ·exfalso
    refine c ?_
    rw [decide_eq_false (fun z => e (by have := V.int.inj z; omega))]
    rfl
  obtain ⟨x0, x1, rfl⟩ := len2 c'
  obtain ⟨⟨T1, k1⟩, k2⟩ := hk x1 (by simp)
  refine ⟨_, rfl, p, _, _, x1, rfl, rfl, SqT.of hp, rfl, _, _, _, _, rfl, k1.ty, kit_tuple T1, _, rfl, ?_⟩
  cases e1 : T1.isT with
  | false =>
   refine iteT ?_
   have q' := q H (Same.refl H)
   have z : isToldV H [x0, x1] = false := by simp [isToldV, tupV_no k1 e1]
   rw [z] at q'
   exact q'
  | true =>
   obtain ⟨a, ns, rfl, ha, hv⟩ := tupV_of k1 e1
   obtain ⟨hl, hn⟩ := k2 ns hv
   have z : isToldV H [x0, .ref a] = ((decide (1 ≤ ns.length) && decide (ns.length ≤ 64)) && ns.all fun z => wholeV z 0 999) := by simp only [isToldV, hv]
   rw [z] at q
   refine iteF ⟨_, rfl, p, _, _, .ref a, rfl, rfl, SqT.of hp, rfl, a, ns, rfl, .inr (SqT.of ha), _, _, rfl, rfl, _, rfl, ite2 (fun c1 => ?_) fun c1 => ?_⟩
   ·have d1 : decide (1 ≤ ns.length) = true := by
     have := of_decide_eq_true c1
     exact decide_eq_true (by omega)
    rw [d1, Bool.true_and] at q
    refine ⟨_, _, rfl, rfl, _, rfl, ?_⟩
    cases e64 : decide ((ns.length : Int) ≤ 64) with
    | false =>
     refine iteT ?_
     have d2 : decide (ns.length ≤ 64) = false := decide_eq_false fun z => by
      have := of_decide_eq_false e64
      omega
     rw [d2, Bool.false_and] at q
     exact q H (Same.refl H)
    | true =>
     refine iteF ?_
     have d2 : decide (ns.length ≤ 64) = true := decide_eq_true (by have := of_decide_eq_true e64; omega)
     rw [d2, Bool.true_and] at q
     refine ⟨_, rfl, p, _, _, .ref a, rfl, rfl, SqT.of hp, rfl, a, rfl, ⟨ns, SqT.of ha⟩, fun D hD => comp_tup (xs := ns) (fun z => .bl (wholeV z 0 999)) (SqT.of ha) hD (by omega) (fun x ys Q' hx hQ => ?_) ?_⟩
     ·obtain ⟨Tz, kz⟩ := hn x hx
      exact ⟨_, rfl, x, 0, 999, Tz, rfl, kz.same (Same.new hD _), hQ⟩
     ·refine ⟨D, ns.map fun z => wholeV z 0 999, rfl, SqL.of (by rw [upd_same, List.map_map]; rfl), ?_⟩
      have q' := q _ (Same.new hD (.lst (ns.map fun z => .bl (wholeV z 0 999))))
      rw [List.all_map]
      exact q'
   ·refine ⟨_, rfl, iteT ?_⟩
    have d1 : decide (1 ≤ ns.length) = false := decide_eq_false fun z => c1 (decide_eq_true (by omega))
    rw [d1, Bool.false_and, Bool.false_and] at q
    exact q H (Same.refl H)
end S60
namespace S60
open PySem L2 SC PyProof.Rows S40 Ly Gw
theorem sc_is_rule : FnScope ["thing"] ["thing"] (defScope (top 23)) := ⟨rfl, rfl, rfl, by decide +kernel, rfl, by decide +kernel, by decide +kernel⟩
theorem v_is_rule : Vs ["thing"] (defScope (top 23)) := Vs.of (by decide +kernel)
theorem l_is_rule : Ls ["thing"] (defScope (top 23)) := Ls.of sc_is_rule.nd (by decide +kernel)
theorem g_is_rule : Gs ["isinstance", "tuple", "len", "str", "is_times_rule", "is_high_rule", "is_told_rule"] (defScope (top 23)) := Gs.of (by decide +kernel)
theorem ok_is_rule {P : Program} {w : World} {K : PySem.W.Frag} {mg : Str → Option Value} {base : Heap} {f : Addr} {fd : FuncData} {cl : CN → Addr} (F : Fun K "is_rule" "is_rule" (top 23) f fd) (T : Tx K mg cl) (O_is_times_rule : Own P w K mg base true 2 "is_times_rule" ["rule"] (spTimes)) (O_is_high_rule : Own P w K mg base true 2 "is_high_rule" ["rule"] (spHigh)) (O_is_told_rule : Own P w K mg base true 2 "is_told_rule" ["rule"] (spTold)) :
  FnOk P w K mg base (CX1 P w) true 3 f fd ["thing"] (spIsRule) := by
 have S := sc_is_rule
 have Vv := v_is_rule
 have Lo := l_is_rule
 have Gg := g_is_rule
 refine F.ok S (fun vs H Q E h => ?_) (fun cdv A outer s H vs Q E hx hcx hh hr D h => ?_)
 ·obtain ⟨p, rfl, _⟩ := h; rfl
 obtain ⟨v, rfl, pl, q⟩ := h
 refine ⟨_, (pss_cons (ps_if (PW.pt (pw_or (pt_not (pt_val (cB (i := 0) Gg (call_isi) T.nisinstance bt_isinstance (pa_cons (vn Vv 0) (pa_cons (nTy (i := 1) Gg T.ntuple bt_tuple) pa_nil))))) (pw_or (pt_cmpR op_eq (cB (i := 2) Gg (call_len_seq) T.nlen bt_len (pa_cons (vn Vv 0) pa_nil)) pe_int (nomark _)) (pw_or1 (pt_not (pt_val (cB (i := 0) Gg (call_isi) T.nisinstance bt_isinstance (pa_cons (pe_ix ix_tup (vn Vv 0) pe_int (fun _ _ => rfl)) (pa_cons (nTy (i := 3) Gg T.nstr bt_str) pa_nil))))))))) (pss_one (ps_ret pe_bl)) pss_nil)
  (pss_cons (ps_if (pt_cmpR op_eq (pe_ix ix_tup (vn Vv 0) pe_int (fun _ _ => rfl)) pe_str (nomark _)) (pss_one (ps_ret (cOwn (i := 4) Gg O_is_times_rule (hr.mono (by decide)) passX (pa_cons (vn Vv 0) pa_nil)))) pss_nil)
  (pss_cons (ps_if (pt_cmpR op_eq (pe_ix ix_tup (vn Vv 0) pe_int (fun _ _ => rfl)) pe_str (nomark _)) (pss_one (ps_ret (cOwn (i := 5) Gg O_is_high_rule (hr.mono (by decide)) passX (pa_cons (vn Vv 0) pa_nil)))) pss_nil)
  (pss_one (ps_ret (pe_and (pe_cmpR op_eq (pe_ix ix_tup (vn Vv 0) pe_int (fun _ _ => rfl)) pe_str (nomark _)) (pe_one (cOwn (i := 6) Gg O_is_told_rule (hr.mono (by decide)) passX (pa_cons (vn Vv 0) pa_nil))))))))), ?_⟩
 obtain ⟨⟨T0, k0⟩, kI, few⟩ := pl
 refine ⟨_, rfl, _, _, _, _, rfl, k0.ty, kit_tuple T0, _, rfl, ?_⟩
 cases e0 : T0.isT with
 | false =>
  refine iteT (iteT ?_)
  have z : isRuleV H v = false := by simp [isRuleV, tupV_no k0 e0]
  rw [z] at q
  exact q H (Same.refl H)
 | true =>
  obtain ⟨p, xs, rfl, hp, hv⟩ := tupV_of k0 e0
  have fl := few xs hv
  refine iteF ⟨_, rfl, p, xs, rfl, .inr (SqT.of hp), rfl, _, rfl, ite2 (fun c => ?_) fun c => ?_⟩
  ·refine iteT ?_
   have e : xs = [] := by
    have := V.int.inj (of_decide_eq_true c)
    exact List.eq_nil_of_length_eq_zero (by omega)
   have z : isRuleV H (.ref p) = false := by simp [isRuleV, hv, e]
   rw [z] at q
   exact q H (Same.refl H)
  ·cases xs with
   | nil => exact absurd rfl c
   | cons x0 r =>
    obtain ⟨⟨T1, k1⟩, _⟩ := kI _ hv x0 (by simp)
    have a0 : atI (x0 :: r) 0 = some x0 := atI_nat (j := 0) rfl
    refine ⟨_, rfl, p, _, _, x0, rfl, rfl, SqT.of hp, a0, _, _, _, _, rfl, k1.ty, kit_str T1, _, rfl, ?_⟩
    have fin : isRuleV H (.ref p) = false → Q (.bl false) H := fun z => by
     have z2 := q H (Same.refl H)
     rw [z] at z2
     exact z2
    cases k1 with
    | str z =>
     refine iteF ⟨_, rfl, p, _, _, .str z, rfl, rfl, SqT.of hp, a0, rfl, _, rfl, ite2 (fun c1 => ?_) fun c1 => ?_⟩
     ·have e1 : z = "times" := V.str.inj (of_decide_eq_true c1)
      have zz : isRuleV H (.ref p) = isTimesV (.str z :: r) := by simp only [isRuleV, hv]; rw [if_pos e1]
      rw [zz] at q
      exact ⟨_, rfl, p, _, rfl, hp, fun y hy => (kI _ hv y hy).1, q H (Same.refl H)⟩
     ·have e1 : ¬ z = "times" := fun e => c1 (decide_eq_true (by rw [e]))
      refine ⟨_, rfl, p, _, _, .str z, rfl, rfl, SqT.of hp, a0, rfl, _, rfl, ite2 (fun c2 => ?_) fun c2 => ?_⟩
      ·have e2 : z = "high" := V.str.inj (of_decide_eq_true c2)
       have zz : isRuleV H (.ref p) = isHighV (.str z :: r) := by simp only [isRuleV, hv]; rw [if_neg e1, if_pos e2]
       rw [zz] at q
       exact ⟨_, rfl, p, _, rfl, hp, fun y hy => (kI _ hv y hy).1, q H (Same.refl H)⟩
      ·have e2 : ¬ z = "high" := fun e => c2 (decide_eq_true (by rw [e]))
       have zz : isRuleV H (.ref p) = (decide (z = "told") && isToldV H (.str z :: r)) := by simp only [isRuleV, hv]; rw [if_neg e1, if_neg e2]
       rw [zz] at q
       refine ⟨_, rfl, p, _, _, .str z, rfl, rfl, SqT.of hp, a0, rfl, _, rfl, ite2 (fun c3 => ?_) fun c3 => ?_⟩
       ·have e3 : z = "told" := V.str.inj (of_decide_eq_true c3)
        rw [decide_eq_true e3, Bool.true_and] at q
        exact ⟨_, rfl, p, _, rfl, hp, kI _ hv, q⟩
       ·rw [decide_eq_false (fun e => c3 (decide_eq_true (by rw [e]))), Bool.false_and] at q
        exact q H (Same.refl H)
    | non => exact iteT (fin (by simp [isRuleV, hv]))
    | bl b => exact iteT (fin (by simp [isRuleV, hv]))
    | int i => exact iteT (fin (by simp [isRuleV, hv]))
    | lst e => exact iteT (fin (by simp [isRuleV, hv]))
    | tup e => exact iteT (fin (by simp [isRuleV, hv]))
end S60
namespace S60
open PySem L2 SC PyProof.Rows S40 Ly Gw
theorem sc_check_rule : FnScope ["rule"] ["rule"] (defScope (top 24)) := ⟨rfl, rfl, rfl, by decide +kernel, rfl, by decide +kernel, by decide +kernel⟩
theorem v_check_rule : Vs ["rule"] (defScope (top 24)) := Vs.of (by decide +kernel)
theorem l_check_rule : Ls ["rule"] (defScope (top 24)) := Ls.of sc_check_rule.nd (by decide +kernel)
theorem g_check_rule : Gs ["is_rule", "BadRule"] (defScope (top 24)) := Gs.of (by decide +kernel)
theorem ok_check_rule {P : Program} {w : World} {K : PySem.W.Frag} {mg : Str → Option Value} {base : Heap} {f : Addr} {fd : FuncData} {cl : CN → Addr} (F : Fun K "check_rule" "check_rule" (top 24) f fd) (T : Tx K mg cl) (O_is_rule : Own P w K mg base true 3 "is_rule" ["thing"] (spIsRule)) :
  FnOk P w K mg base (CX1 P w) true 4 f fd ["rule"] (spCheckRule (cl .BadRule)) := by
 have S := sc_check_rule
 have Vv := v_check_rule
 have Lo := l_check_rule
 have Gg := g_check_rule
 refine F.ok S (fun vs H Q E h => ?_) (fun cdv A outer s H vs Q E hx hcx hh hr D h => ?_)
 ·obtain ⟨p, rfl, _⟩ := h; rfl
 obtain ⟨v, rfl, pl, q⟩ := h
 refine ⟨_, (pss_one (ps_if (pt_not (pt_val (cOwn (i := 0) Gg O_is_rule (hr.mono (by decide)) passX (pa_cons (vn Vv 0) pa_nil)))) (pss_one (rse (i := 1) Gg T.mBadRule T.xBadRule (pa_cons pe_str pa_nil))) pss_nil)), ?_⟩
 refine ⟨_, rfl, v, rfl, pl, fun H' sm => ⟨_, rfl, ?_⟩⟩
 have q' := q H' sm
 cases e : isRuleV H v with
 | true =>
  rw [e, if_pos rfl] at q'
  exact iteF q'
 | false =>
  rw [e, if_neg Bool.false_ne_true] at q'
  exact iteT ⟨by decide, q'⟩
end S60
namespace S60
open PySem L2 SC PyProof.Rows S40 Ly Gw
theorem sc_check_key : FnScope ["key"] ["key"] (defScope (top 25)) := ⟨rfl, rfl, rfl, by decide +kernel, rfl, by decide +kernel, by decide +kernel⟩
theorem v_check_key : Vs ["key"] (defScope (top 25)) := Vs.of (by decide +kernel)
theorem l_check_key : Ls ["key"] (defScope (top 25)) := Ls.of sc_check_key.nd (by decide +kernel)
theorem g_check_key : Gs ["is_whole", "MOST_KEY", "BadKey"] (defScope (top 25)) := Gs.of (by decide +kernel)
theorem ok_check_key {P : Program} {w : World} {K : PySem.W.Frag} {mg : Str → Option Value} {base : Heap} {f : Addr} {fd : FuncData} {cl : CN → Addr} (F : Fun K "check_key" "check_key" (top 25) f fd) (T : Tx K mg cl) (O_is_whole : Own P w K mg base true 1 "is_whole" ["thing", "least", "most"] (spWhole)) :
  FnOk P w K mg base (CX1 P w) true 2 f fd ["key"] (spCheckKey (cl .BadKey)) := by
 have S := sc_check_key
 have Vv := v_check_key
 have Lo := l_check_key
 have Gg := g_check_key
 refine F.ok S (fun vs H Q E h => ?_) (fun cdv A outer s H vs Q E hx hcx hh hr D h => ?_)
 ·obtain ⟨p, _, rfl, _⟩ := h; rfl
 obtain ⟨v, Tv, rfl, kv, q⟩ := h
 refine ⟨_, (pss_one (ps_if (pt_not (pt_val (cOwn (i := 0) Gg O_is_whole (hr.mono (by decide)) passX (pa_cons (vn Vv 0) (pa_cons pe_int (pa_cons (nCon (i := 1) Gg T.cMOST_KEY) pa_nil)))))) (pss_one (rse (i := 2) Gg T.mBadKey T.xBadKey (pa_cons pe_str pa_nil))) pss_nil)), ?_⟩
 refine ⟨_, rfl, v, 0, 999999, Tv, rfl, kv, _, rfl, ?_⟩
 cases e : wholeV v 0 999999 with
 | true =>
  rw [e, if_pos rfl] at q
  exact iteF q
 | false =>
  rw [e, if_neg Bool.false_ne_true] at q
  exact iteT ⟨by decide, q⟩
end S60
namespace S60
open PySem L2 SC PyProof.Rows S40 Ly Gw
theorem sc_check_size : FnScope ["size"] ["size"] (defScope (top 26)) := ⟨rfl, rfl, rfl, by decide +kernel, rfl, by decide +kernel, by decide +kernel⟩
theorem v_check_size : Vs ["size"] (defScope (top 26)) := Vs.of (by decide +kernel)
theorem l_check_size : Ls ["size"] (defScope (top 26)) := Ls.of sc_check_size.nd (by decide +kernel)
theorem g_check_size : Gs ["is_whole", "LEAST_SIZE", "MOST_SIZE", "BadSize"] (defScope (top 26)) := Gs.of (by decide +kernel)
theorem ok_check_size {P : Program} {w : World} {K : PySem.W.Frag} {mg : Str → Option Value} {base : Heap} {f : Addr} {fd : FuncData} {cl : CN → Addr} (F : Fun K "check_size" "check_size" (top 26) f fd) (T : Tx K mg cl) (O_is_whole : Own P w K mg base true 1 "is_whole" ["thing", "least", "most"] (spWhole)) :
  FnOk P w K mg base (CX1 P w) true 2 f fd ["size"] (spCheckSize (cl .BadSize)) := by
 have S := sc_check_size
 have Vv := v_check_size
 have Lo := l_check_size
 have Gg := g_check_size
 refine F.ok S (fun vs H Q E h => ?_) (fun cdv A outer s H vs Q E hx hcx hh hr D h => ?_)
 ·obtain ⟨p, _, rfl, _⟩ := h; rfl
 obtain ⟨v, Tv, rfl, kv, q⟩ := h
 refine ⟨_, (pss_one (ps_if (pt_not (pt_val (cOwn (i := 0) Gg O_is_whole (hr.mono (by decide)) passX (pa_cons (vn Vv 0) (pa_cons (nCon (i := 1) Gg T.cLEAST_SIZE) (pa_cons (nCon (i := 2) Gg T.cMOST_SIZE) pa_nil)))))) (pss_one (rse (i := 3) Gg T.mBadSize T.xBadSize (pa_cons pe_str pa_nil))) pss_nil)), ?_⟩
 refine ⟨_, rfl, v, 2, 64, Tv, rfl, kv, _, rfl, ?_⟩
 cases e : wholeV v 2 64 with
 | true =>
  rw [e, if_pos rfl] at q
  exact iteF q
 | false =>
  rw [e, if_neg Bool.false_ne_true] at q
  exact iteT ⟨by decide, q⟩
end S60
namespace S60
open PySem L2 SC PyProof.Rows S40 Ly Gw
theorem sc_check_count : FnScope ["count", "least", "most"] ["count", "least", "most"] (defScope (top 27)) := ⟨rfl, rfl, rfl, by decide +kernel, rfl, by decide +kernel, by decide +kernel⟩
theorem v_check_count : Vs ["count", "least", "most"] (defScope (top 27)) := Vs.of (by decide +kernel)
theorem l_check_count : Ls ["count", "least", "most"] (defScope (top 27)) := Ls.of sc_check_count.nd (by decide +kernel)
theorem g_check_count : Gs ["is_whole", "BadSize"] (defScope (top 27)) := Gs.of (by decide +kernel)
theorem ok_check_count {P : Program} {w : World} {K : PySem.W.Frag} {mg : Str → Option Value} {base : Heap} {f : Addr} {fd : FuncData} {cl : CN → Addr} (F : Fun K "check_count" "check_count" (top 27) f fd) (T : Tx K mg cl) (O_is_whole : Own P w K mg base true 1 "is_whole" ["thing", "least", "most"] (spWhole)) :
  FnOk P w K mg base (CX1 P w) true 2 f fd ["count", "least", "most"] (spCheckCount (cl .BadSize)) := by
 have S := sc_check_count
 have Vv := v_check_count
 have Lo := l_check_count
 have Gg := g_check_count
 refine F.ok S (fun vs H Q E h => ?_) (fun cdv A outer s H vs Q E hx hcx hh hr D h => ?_)
 ·obtain ⟨v, l, m, T, rfl, _⟩ := h; rfl
 obtain ⟨v, l, m, Tv, rfl, kv, q⟩ := h
 refine ⟨_, (pss_one (ps_if (pt_not (pt_val (cOwn (i := 0) Gg O_is_whole (hr.mono (by decide)) passX (pa_cons (vn Vv 0) (pa_cons (vn Vv 1) (pa_cons (vn Vv 2) pa_nil)))))) (pss_one (rse (i := 1) Gg T.mBadSize T.xBadSize (pa_cons pe_str pa_nil))) pss_nil)), ?_⟩
 refine ⟨_, rfl, _, rfl, _, rfl, v, l, m, Tv, rfl, kv, _, rfl, ?_⟩
 cases e : wholeV v l m with
 | true =>
  rw [e, if_pos rfl] at q
  exact iteF q
 | false =>
  rw [e, if_neg Bool.false_ne_true] at q
  exact iteT ⟨by decide, q⟩
end S60
namespace S60
open PySem L2 SC PyProof.Rows S40 Ly Gw
theorem sc_reckon_home : FnScope ["rule", "key", "size", "whole", "rest", "numbers"] ["rule", "key", "size"] (defScope (top 28)) := ⟨rfl, rfl, rfl, by decide +kernel, rfl, by decide +kernel, by decide +kernel⟩
theorem v_reckon_home : Vs ["rule", "key", "size", "whole", "rest", "numbers"] (defScope (top 28)) := Vs.of (by decide +kernel)
theorem l_reckon_home : Ls ["rule", "key", "size", "whole", "rest", "numbers"] (defScope (top 28)) := Ls.of sc_reckon_home.nd (by decide +kernel)
theorem g_reckon_home : Gs ["power", "len"] (defScope (top 28)) := Gs.of (by decide +kernel)
theorem ok_reckon_home {P : Program} {w : World} {K : PySem.W.Frag} {mg : Str → Option Value} {base : Heap} {f : Addr} {fd : FuncData} {cl : CN → Addr} (F : Fun K "reckon_home" "reckon_home" (top 28) f fd) (T : Tx K mg cl) (O_power : Own P w K mg base true 1 "power" ["base", "exponent"] (spPow)) :
  FnOk P w K mg base (CX1 P w) true 2 f fd ["rule", "key", "size"] (spReckon) := by
 have S := sc_reckon_home
 have Vv := v_reckon_home
 have Lo := l_reckon_home
 have Gg := g_reckon_home
 refine F.ok S (fun vs H Q E h => ?_) (fun cdv A outer s H vs Q E hx hcx hh hr D h => ?_)
 ·obtain ⟨v, r, k, z, rfl, _⟩ := h; rfl
 obtain ⟨v, r, k, z, rfl, ra, rk, ⟨k0, k1⟩, ⟨z0, z1⟩, q⟩ := h
 refine ⟨_, (pss_cons (ps_if (pt_cmpR op_eq (pe_ix ix_tup (vn Vv 0) pe_int (fun _ _ => rfl)) pe_str (nomark _)) (pss_one (ps_ret (pe_op op_mod (pe_op op_add (pe_op op_mulA (pe_ix ix_tup (vn Vv 0) pe_int (fun _ _ => rfl)) (vn Vv 1)) (pe_ix ix_tup (vn Vv 0) pe_int (fun _ _ => rfl))) (vn Vv 2)))) pss_nil)
  (pss_cons (ps_if (pt_cmpR op_eq (pe_ix ix_tup (vn Vv 0) pe_int (fun _ _ => rfl)) pe_str (nomark _)) (pss_cons (set_v (i := 3) Lo (cOwn (i := 0) Gg O_power (hr.mono (by decide)) passX (pa_cons pe_int (pa_cons (pe_ix ix_tup (vn Vv 0) pe_int (fun _ _ => rfl)) pa_nil))))
  (pss_cons (set_v (i := 4) Lo (pe_op op_mod (pe_op op_mulA (pe_ix ix_tup (vn Vv 0) pe_int (fun _ _ => rfl)) (vn Vv 1)) (vn Vv 3)))
  (pss_one (ps_ret (pe_op op_fdivA (pe_op op_mulA (vn Vv 4) (vn Vv 2)) (vn Vv 3)))))) pss_nil)
  (pss_cons (set_v (i := 5) Lo (pe_ix ix_tup (vn Vv 0) pe_int (fun _ _ => rfl)))
  (pss_one (ps_ret (pe_op op_mod (pe_ix ix_tup (vn Vv 5) (pe_op op_mod (vn Vv 1) (cB (i := 1) Gg (call_len_seq) T.nlen bt_len (pa_cons (vn Vv 5) pa_nil))) (fun _ _ => rfl)) (vn Vv 2))))))), ?_⟩
 cases r with
 | times a b =>
  obtain ⟨p, rfl, hp⟩ := ra
  refine ⟨_, rfl, p, _, _, .str "times", rfl, rfl, SqT.of hp, rfl, rfl, _, rfl, iteY (sY _) ?_⟩
  refine ⟨_, rfl, p, _, _, .int a, rfl, rfl, SqT.of hp, rfl, _, rfl, _, _, rfl, rfl, mulS k0 (by omega), _, rfl, p, _, _, .int b, rfl, rfl, SqT.of hp, rfl, _, _, rfl, rfl, _, rfl, _, _, rfl, rfl, (by omega), q⟩
 | high a b =>
  obtain ⟨p, rfl, hp⟩ := ra
  obtain ⟨⟨a0, a1⟩, b0, b1⟩ := rk
  obtain ⟨w0, w1⟩ := pow30 (n := b.toNat) (by omega)
  refine ⟨_, rfl, p, _, _, .str "high", rfl, rfl, SqT.of hp, rfl, rfl, _, rfl, iteN (by rw [sT _ _ (by decide +kernel)]; exact Bool.false_ne_true) ?_⟩
  refine ⟨_, rfl, p, _, _, .str "high", rfl, rfl, SqT.of hp, rfl, rfl, _, rfl, iteY (sY _) ?_⟩
  refine ⟨_, rfl, p, _, _, .int b, rfl, rfl, SqT.of hp, rfl, 2, b, rfl, ⟨by decide, by decide⟩, ⟨by omega, by omega⟩, ?_⟩
  refine ⟨_, rfl, p, _, _, .int a, rfl, rfl, SqT.of hp, rfl, _, rfl, _, _, rfl, rfl, mulS k0 (by omega), _, rfl, _, _, rfl, rfl, w0, ?_⟩
  refine ⟨_, rfl, _, rfl, _, _, rfl, rfl, mulS (by omega) (by omega), _, rfl, _, _, rfl, rfl, ⟨w0, Int.lt_of_le_of_lt w1 (by decide)⟩, q⟩
 | told ns =>
  obtain ⟨p, p2, rfl, hp, hq⟩ := ra
  obtain ⟨⟨l0, l1⟩, b1⟩ := rk
  have hl : (0 : Int) < ((ns.map V.int).length : Nat) := by rw [List.length_map]; omega
  refine ⟨_, rfl, p, _, _, .str "told", rfl, rfl, SqT.of hp, rfl, rfl, _, rfl, iteN (by rw [sT _ _ (by decide +kernel)]; exact Bool.false_ne_true) ?_⟩
  refine ⟨_, rfl, p, _, _, .str "told", rfl, rfl, SqT.of hp, rfl, rfl, _, rfl, iteN (by rw [sT _ _ (by decide +kernel)]; exact Bool.false_ne_true) ?_⟩
  refine ⟨_, rfl, p, _, _, .ref p2, rfl, rfl, SqT.of hp, rfl, ?_⟩
  refine ⟨_, rfl, _, rfl, _, rfl, p2, _, rfl, .inr (SqT.of hq), _, _, rfl, rfl, hl, p2, _, _, _, rfl, rfl, SqT.of hq, atI_getD (Int.emod_nonneg _ (by omega)) (by have := Int.emod_lt_of_pos k hl; rw [List.length_map] at this ⊢; exact this), _, rfl, _, _, rfl, rfl, (by omega), ?_⟩
  have q' : Q (.int (ns.getD (k % ns.length).toNat 0 % z)) H := q
  rw [List.length_map]
  exact q'
end S60
namespace S60
open PySem L2 SC PyProof.Rows S40 Ly Gw
theorem sc_next_place : FnScope ["place", "size"] ["place", "size"] (defScope (top 30)) := ⟨rfl, rfl, rfl, by decide +kernel, rfl, by decide +kernel, by decide +kernel⟩
theorem v_next_place : Vs ["place", "size"] (defScope (top 30)) := Vs.of (by decide +kernel)
theorem l_next_place : Ls ["place", "size"] (defScope (top 30)) := Ls.of sc_next_place.nd (by decide +kernel)
theorem g_next_place : Gs [] (defScope (top 30)) := Gs.of (by decide +kernel)
theorem ok_next_place {P : Program} {w : World} {K : PySem.W.Frag} {mg : Str → Option Value} {base : Heap} {f : Addr} {fd : FuncData} {cl : CN → Addr} (F : Fun K "next_place" "next_place" (top 30) f fd) (T : Tx K mg cl) :
  FnOk P w K mg base (CX1 P w) true 1 f fd ["place", "size"] (spNext) := by
 have S := sc_next_place
 have Vv := v_next_place
 have Lo := l_next_place
 have Gg := g_next_place
 refine F.ok S (fun vs H Q E h => ?_) (fun cdv A outer s H vs Q E hx hcx hh hr D h => ?_)
 ·obtain ⟨p, s, rfl, _⟩ := h; rfl
 obtain ⟨p, s, rfl, s0, q⟩ := h
 refine ⟨_, (pss_one (ps_ret (pe_op op_mod (pe_op op_add (vn Vv 0) pe_int) (vn Vv 1)))), ?_⟩
 exact ⟨_, rfl, _, _, rfl, rfl, _, rfl, _, _, rfl, rfl, posJ s0, q⟩
end S60
namespace S60
open PySem L2 SC PyProof.Rows S40 Ly Gw
theorem sc_way_on : FnScope ["start", "place", "size"] ["start", "place", "size"] (defScope (top 31)) := ⟨rfl, rfl, rfl, by decide +kernel, rfl, by decide +kernel, by decide +kernel⟩
theorem v_way_on : Vs ["start", "place", "size"] (defScope (top 31)) := Vs.of (by decide +kernel)
theorem l_way_on : Ls ["start", "place", "size"] (defScope (top 31)) := Ls.of sc_way_on.nd (by decide +kernel)
theorem g_way_on : Gs [] (defScope (top 31)) := Gs.of (by decide +kernel)
theorem ok_way_on {P : Program} {w : World} {K : PySem.W.Frag} {mg : Str → Option Value} {base : Heap} {f : Addr} {fd : FuncData} {cl : CN → Addr} (F : Fun K "way_on" "way_on" (top 31) f fd) (T : Tx K mg cl) :
  FnOk P w K mg base (CX1 P w) true 1 f fd ["start", "place", "size"] (spWayOn) := by
 have S := sc_way_on
 have Vv := v_way_on
 have Lo := l_way_on
 have Gg := g_way_on
 refine F.ok S (fun vs H Q E h => ?_) (fun cdv A outer s H vs Q E hx hcx hh hr D h => ?_)
 ·obtain ⟨a, p, s, rfl, _⟩ := h; rfl
 obtain ⟨a, p, s, rfl, s0, q⟩ := h
 refine ⟨_, (pss_one (ps_ret (pe_op op_mod (pe_op op_sub (vn Vv 1) (vn Vv 0)) (vn Vv 2)))), ?_⟩
 exact ⟨_, rfl, _, rfl, _, _, rfl, rfl, _, rfl, _, _, rfl, rfl, posJ s0, q⟩
end S60
namespace S60
open PySem L2 SC PyProof.Rows S40 Ly Gw
theorem sc_way_of : FnScope ["rule", "key", "place", "size"] ["rule", "key", "place", "size"] (defScope (top 33)) := ⟨rfl, rfl, rfl, by decide +kernel, rfl, by decide +kernel, by decide +kernel⟩
theorem v_way_of : Vs ["rule", "key", "place", "size"] (defScope (top 33)) := Vs.of (by decide +kernel)
theorem l_way_of : Ls ["rule", "key", "place", "size"] (defScope (top 33)) := Ls.of sc_way_of.nd (by decide +kernel)
theorem g_way_of : Gs ["way_on", "reckon_home"] (defScope (top 33)) := Gs.of (by decide +kernel)
theorem ok_way_of {P : Program} {w : World} {K : PySem.W.Frag} {mg : Str → Option Value} {base : Heap} {f : Addr} {fd : FuncData} {cl : CN → Addr} (F : Fun K "way_of" "way_of" (top 33) f fd) (T : Tx K mg cl) (O_reckon_home : Own P w K mg base true 2 "reckon_home" ["rule", "key", "size"] (spReckon)) (O_way_on : Own P w K mg base true 1 "way_on" ["start", "place", "size"] (spWayOn)) :
  FnOk P w K mg base (CX1 P w) true 3 f fd ["rule", "key", "place", "size"] (spWayOf) := by
 have S := sc_way_of
 have Vv := v_way_of
 have Lo := l_way_of
 have Gg := g_way_of
 refine F.ok S (fun vs H Q E h => ?_) (fun cdv A outer s H vs Q E hx hcx hh hr D h => ?_)
 ·obtain ⟨v, r, n, p, k, rfl, _⟩ := h; rfl
 obtain ⟨v, r, n, p, k, rfl, ⟨ra, rk, n2, n1⟩, hk, hp', q⟩ := h
 refine ⟨_, (pss_one (ps_ret (cOwn (i := 0) Gg O_way_on (hr.mono (by decide)) passX (pa_cons (cOwn (i := 1) Gg O_reckon_home (hr.mono (by decide)) passX (pa_cons (vn Vv 0) (pa_cons (vn Vv 1) (pa_cons (vn Vv 3) pa_nil)))) (pa_cons (vn Vv 2) (pa_cons (vn Vv 3) pa_nil)))))), ?_⟩
 refine ⟨_, rfl, _, rfl, _, rfl, v, r, k, n, rfl, ra, rk, hk, ⟨by omega, by omega⟩, _, rfl, _, rfl, r.home k n, p, n, rfl, by omega, ?_⟩
 rw [hm_eq rk (by omega), way_dist (hm_lt rk (by omega) k) hp']
 exact q
end S60
namespace S60
open PySem L2 SC PyProof.Rows S40 Ly Gw
theorem sc_goes_ahead : FnScope ["rule", "one", "other", "place", "size", "one_way", "other_way"] ["rule", "one", "other", "place", "size"] (defScope (top 34)) := ⟨rfl, rfl, rfl, by decide +kernel, rfl, by decide +kernel, by decide +kernel⟩
theorem v_goes_ahead : Vs ["rule", "one", "other", "place", "size", "one_way", "other_way"] (defScope (top 34)) := Vs.of (by decide +kernel)
theorem l_goes_ahead : Ls ["rule", "one", "other", "place", "size", "one_way", "other_way"] (defScope (top 34)) := Ls.of sc_goes_ahead.nd (by decide +kernel)
theorem g_goes_ahead : Gs ["way_of"] (defScope (top 34)) := Gs.of (by decide +kernel)
theorem ok_goes_ahead {P : Program} {w : World} {K : PySem.W.Frag} {mg : Str → Option Value} {base : Heap} {f : Addr} {fd : FuncData} {cl : CN → Addr} (F : Fun K "goes_ahead" "goes_ahead" (top 34) f fd) (T : Tx K mg cl) (O_way_of : Own P w K mg base true 3 "way_of" ["rule", "key", "place", "size"] (spWayOf)) :
  FnOk P w K mg base (CX1 P w) true 4 f fd ["rule", "one", "other", "place", "size"] (spAhead) := by
 have S := sc_goes_ahead
 have Vv := v_goes_ahead
 have Lo := l_goes_ahead
 have Gg := g_goes_ahead
 refine F.ok S (fun vs H Q E h => ?_) (fun cdv A outer s H vs Q E hx hcx hh hr D h => ?_)
 ·obtain ⟨v, r, n, p, a, b, rfl, _⟩ := h; rfl
 obtain ⟨v, r, n, p, a, b, rfl, hin, ha, hb, hp', q⟩ := h
 refine ⟨_, (pss_cons (set_v (i := 5) Lo (cOwn (i := 0) Gg O_way_of (hr.mono (by decide)) passX (pa_cons (vn Vv 0) (pa_cons (vn Vv 1) (pa_cons (vn Vv 3) (pa_cons (vn Vv 4) pa_nil))))))
  (pss_cons (set_v (i := 6) Lo (cOwn (i := 0) Gg O_way_of (hr.mono (by decide)) passX (pa_cons (vn Vv 0) (pa_cons (vn Vv 2) (pa_cons (vn Vv 3) (pa_cons (vn Vv 4) pa_nil))))))
  (pss_one (ps_ret (pe_or (pe_cmpR op_gt (vn Vv 5) (vn Vv 6) (nomark _)) (pe_one (pe_and (pe_cmpR op_eq (vn Vv 5) (vn Vv 6) (nomark _)) (pe_one (pe_cmpR op_lt (vn Vv 1) (vn Vv 2) (nomark _)))))))))), ?_⟩
 refine ⟨_, rfl, _, rfl, _, rfl, _, rfl, v, r, n, p, a, rfl, hin, ha, hp', ?_⟩
 refine ⟨_, rfl, _, rfl, _, rfl, _, rfl, v, r, n, p, b, rfl, hin, hb, hp', ?_⟩
 refine ⟨_, rfl, _, rfl, _, _, rfl, rfl, _, rfl, ite2 (fun c => ?_) fun c => ?_⟩
 ·have e : aheadB n (hm r n) a b p = true := by
   unfold aheadB
   rw [decide_eq_true (by have := of_decide_eq_true c; omega), Bool.true_or]
  rw [e] at q
  exact q
 ·have e0 : decide (dist n (hm r n b) p < dist n (hm r n a) p) = false := decide_eq_false fun z => c (decide_eq_true (by omega))
  refine ⟨_, rfl, _, rfl, rfl, _, rfl, ite2 (fun c2 => ?_) fun c2 => ?_⟩
  ·have e1 : dist n (hm r n a) p = dist n (hm r n b) p := by have := V.int.inj (of_decide_eq_true c2); omega
   have e : aheadB n (hm r n) a b p = decide (a < b) := by
    unfold aheadB
    rw [e0, Bool.false_or, decide_eq_true e1, Bool.true_and]
   rw [e] at q
   exact ⟨_, rfl, _, rfl, _, _, rfl, rfl, q⟩
  ·have e1 : ¬ dist n (hm r n a) p = dist n (hm r n b) p := fun z => c2 (decide_eq_true (by rw [z]))
   have e : aheadB n (hm r n) a b p = false := by
    unfold aheadB
    rw [e0, Bool.false_or, decide_eq_false e1, Bool.false_and]
   rw [e] at q
   exact q
end S60
namespace S60
open PySem L2 SC PyProof.Rows S40 Ly Gw
theorem sc_last_look : FnScope ["rule", "places", "key", "size", "place"] ["rule", "places", "key"] (defScope (top 35)) := ⟨rfl, rfl, rfl, by decide +kernel, rfl, by decide +kernel, by decide +kernel⟩
theorem v_last_look : Vs ["rule", "places", "key", "size", "place"] (defScope (top 35)) := Vs.of (by decide +kernel)
theorem l_last_look : Ls ["rule", "places", "key", "size", "place"] (defScope (top 35)) := Ls.of sc_last_look.nd (by decide +kernel)
theorem g_last_look : Gs ["len", "reckon_home", "goes_ahead", "next_place"] (defScope (top 35)) := Gs.of (by decide +kernel)
theorem ok_last_look {P : Program} {w : World} {K : PySem.W.Frag} {mg : Str → Option Value} {base : Heap} {f : Addr} {fd : FuncData} {cl : CN → Addr} (F : Fun K "last_look" "last_look" (top 35) f fd) (T : Tx K mg cl) (O_reckon_home : Own P w K mg base true 2 "reckon_home" ["rule", "key", "size"] (spReckon)) (O_next_place : Own P w K mg base true 1 "next_place" ["place", "size"] (spNext)) (O_goes_ahead : Own P w K mg base true 4 "goes_ahead" ["rule", "one", "other", "place", "size"] (spAhead)) :
  FnOk P w K mg base (CX1 P w) true 5 f fd ["rule", "places", "key"] (spLook) := by
 have S := sc_last_look
 have Vv := v_last_look
 have Lo := l_last_look
 have Gg := g_last_look
 refine F.ok S (fun vs H Q E h => ?_) (fun cdv A outer s H vs Q E hx hcx hh hr D h => ?_)
 ·obtain ⟨v, L, r, n, e, F, k, rfl, _⟩ := h; rfl
 obtain ⟨v, L, r, n, e, F, k, rfl, hin, hL, ok, he, hF, hk, q⟩ := h
 have hp := passesXE (E := E) D
 refine ⟨_, (pss_cons (set_v (i := 3) Lo (cB (i := 0) Gg (call_len_seq) T.nlen bt_len (pa_cons (vn Vv 1) pa_nil)))
  (pss_cons (set_v (i := 4) Lo (cOwn (i := 1) Gg O_reckon_home (hr.mono (by decide)) passX (pa_cons (vn Vv 0) (pa_cons (vn Vv 2) (pa_cons (vn Vv 3) pa_nil)))))
  (pss_cons (ps_while hp (PW.pt (pw_and (pt_cmp (pc_notN (pe_ix ix_list (vn Vv 1) (vn Vv 4) (fun _ _ => rfl)))) (pw_and1 (pt_val (cOwn (i := 2) Gg O_goes_ahead (hr.mono (by decide)) passX (pa_cons (vn Vv 0) (pa_cons (pe_ix ix_list (vn Vv 1) (vn Vv 4) (fun _ _ => rfl)) (pa_cons (vn Vv 2) (pa_cons (vn Vv 4) (pa_cons (vn Vv 3) pa_nil)))))))))) (pss_one (set_v (i := 4) Lo (cOwn (i := 3) Gg O_next_place (hr.mono (by decide)) passX (pa_cons (vn Vv 4) (pa_cons (vn Vv 3) pa_nil))))))
  (pss_one (ps_ret (vn Vv 4)))))), ?_⟩
 obtain ⟨ra, rk, n2, n1⟩ := id hin
 have hml := hm_lt rk (show 0 < n by omega)
 have LL := ok.lay.lin he hF hml
 refine ⟨_, rfl, L, _, rfl, .inl (SqL.of hL), ?_⟩
 rw [ringL_len]
 refine ⟨_, rfl, _, rfl, _, rfl, v, r, k, n, rfl, ra, rk, hk, ⟨by omega, by omega⟩, ?_⟩
 rw [hm_eq rk (by omega)]
 refine ⟨InvLook v L k n e r F H,
  ⟨_, off n e (hm r n k), by rw [rho_off he (hml k)]; rfl, rfl, Nat.le_refl _, off_lt he (hml k), fun u h1 h2 => by omega, rfl⟩, ?_⟩
 rintro m σ H2 ⟨j, rfl, rfl, h1, h2, h3, h4⟩
 have ej : lin n e F j = F (rho n e j) := lin_at h2
 refine ⟨_, rfl, _, rfl, L, _, _, _, rfl, rfl, SqL.of hL, atI_nat (ringL_at (rho_lt he h2)), _, rfl, ?_⟩
 cases hy : F (rho n e j) with
 | none => exact iteF (iteF ⟨_, rfl, q j h1 h2 h3 (fun y z => by rw [ej, hy] at z; cases z)⟩)
 | some y =>
  have ky := ok.keys _ y (rho_lt he h2) hy
  have ly := LL.le j y (by rw [ej, hy])
  refine iteT ⟨_, rfl, _, rfl, _, rfl, L, _, _, _, rfl, rfl, SqL.of hL, atI_nat (ringL_at (rho_lt he h2)), _, rfl, _, rfl, _, rfl, v, r, n, rho n e j, y, k, ?_, hin, ky, hk, rho_lt he h2, _, rfl, ite2 (fun c => ?_) fun c => ?_⟩
  ·rw [hy]; rfl
  ·have hlt := (ahead_lt he hml h2 ly h1).mp c
   have hjn : j ≠ n - 1 := fun z => by rw [z, rho_last he, hF] at hy; cases hy
   refine ⟨_, fun _ _ h => h, _, rfl, _, rfl, _, _, rfl, by omega, ?_⟩
   refine ⟨n - (j + 1), by omega, j + 1, ?_, rfl, by omega, by omega, fun u u1 u2 => ?_, rfl⟩
   ·rw [← nx_rho he (by omega), ← nx_int (rho_lt he h2)]; rfl
   ·by_cases cu : u = j
    ·subst cu; exact ⟨y, by rw [ej, hy], hlt⟩
    ·exact h3 u u1 (by omega)
  ·refine ⟨_, rfl, q j h1 h2 h3 fun y' z => ?_⟩
   rw [ej, hy] at z
   cases z
   exact fun w => c ((ahead_lt he hml h2 ly h1).mpr w)
end S60
namespace S60
open PySem L2 SC PyProof.Rows S40 Ly Gw
theorem sc_stands_in : FnScope ["rule", "places", "key"] ["rule", "places", "key"] (defScope (top 36)) := ⟨rfl, rfl, rfl, by decide +kernel, rfl, by decide +kernel, by decide +kernel⟩
theorem v_stands_in : Vs ["rule", "places", "key"] (defScope (top 36)) := Vs.of (by decide +kernel)
theorem l_stands_in : Ls ["rule", "places", "key"] (defScope (top 36)) := Ls.of sc_stands_in.nd (by decide +kernel)
theorem g_stands_in : Gs ["last_look"] (defScope (top 36)) := Gs.of (by decide +kernel)
theorem ok_stands_in {P : Program} {w : World} {K : PySem.W.Frag} {mg : Str → Option Value} {base : Heap} {f : Addr} {fd : FuncData} {cl : CN → Addr} (F : Fun K "stands_in" "stands_in" (top 36) f fd) (T : Tx K mg cl) (O_last_look : Own P w K mg base true 5 "last_look" ["rule", "places", "key"] (spLook)) :
  FnOk P w K mg base (CX1 P w) true 6 f fd ["rule", "places", "key"] (spStands) := by
 have S := sc_stands_in
 have Vv := v_stands_in
 have Lo := l_stands_in
 have Gg := g_stands_in
 refine F.ok S (fun vs H Q E h => ?_) (fun cdv A outer s H vs Q E hx hcx hh hr D h => ?_)
 ·obtain ⟨v, L, r, n, F, k, rfl, _⟩ := h; rfl
 obtain ⟨v, L, r, n, F, k, rfl, hin, hL, ok, hk, q1, q2⟩ := h
 refine ⟨_, (pss_one (ps_ret (pe_cmpR op_eq (pe_ix ix_list (vn Vv 1) (cOwn (i := 0) Gg O_last_look (hr.mono (by decide)) passX (pa_cons (vn Vv 0) (pa_cons (vn Vv 1) (pa_cons (vn Vv 2) pa_nil)))) (fun _ _ => rfl)) (vn Vv 2) (nomark _)))), ?_⟩
 obtain ⟨ra, rk, n2, n1⟩ := id hin
 have hh := hm_lt rk (show 0 < n by omega)
 obtain ⟨e, he, hF⟩ := ok.e
 have LL := ok.lay.lin he hF hh
 refine ⟨_, rfl, _, rfl, _, rfl, _, rfl, v, L, r, n, e, F, k, rfl, hin, hL, ok, he, hF, hk, fun p p1 p2 p3 p4 => ?_⟩
 refine ⟨L, _, _, _, rfl, rfl, SqL.of hL, atI_nat (ringL_at (rho_lt he p2)), _, rfl, ?_⟩
 have ep : lin n e F p = F (rho n e p) := lin_at p2
 have hhas : hasR n F k → F (rho n e p) = some k := fun z => by
  obtain ⟨i, hi⟩ := (has_lin he k).mpr z
  rw [← ep]
  rcases Nat.lt_trichotomy p i with c | c | c
  ·obtain ⟨y, hy, hl⟩ := LL.lay i k hi p p1 c
   exact absurd hl (p4 y hy)
  ·rw [c]; exact hi
  ·obtain ⟨y, hy, hl⟩ := p3 i (LL.le i k hi) c
   rw [hi] at hy; cases hy
   exact absurd hl lt_irr
 cases hy : F (rho n e p) with
 | none => exact ⟨rfl, q2 fun z => by have := hhas z; rw [hy] at this; cases this⟩
 | some y =>
  refine ⟨rfl, ?_⟩
  by_cases c : y = k
  ·subst c
   rw [show decide (toV (some y) = V.int y) = true from decide_eq_true rfl]
   exact q1 ⟨_, rho_lt he p2, hy⟩
  ·rw [show decide (toV (some y) = V.int k) = false from decide_eq_false fun z => c (V.int.inj z)]
   exact q2 fun z => by have := hhas z; rw [hy] at this; cases this; exact c rfl
end S60
namespace S60
open PySem L2 SC PyProof.Rows S40 Ly Gw
theorem sc_keys_in : FnScope ["places"] ["places"] (defScope (top 37)) := ⟨rfl, rfl, rfl, by decide +kernel, rfl, by decide +kernel, by decide +kernel⟩
theorem v_keys_in : Vs ["places"] (defScope (top 37)) := Vs.of (by decide +kernel)
theorem l_keys_in : Ls ["places"] (defScope (top 37)) := Ls.of sc_keys_in.nd (by decide +kernel)
theorem g_keys_in : Gs ["sorted"] (defScope (top 37)) := Gs.of (by decide +kernel)
theorem ok_keys_in {P : Program} {w : World} {K : PySem.W.Frag} {mg : Str → Option Value} {base : Heap} {f : Addr} {fd : FuncData} {cl : CN → Addr} (F : Fun K "keys_in" "keys_in" (top 37) f fd) (T : Tx K mg cl) :
  FnOk P w K mg base (CX1 P w) true 1 f fd ["places"] (spKeysIn) := by
 have S := sc_keys_in
 have Vv := v_keys_in
 have Lo := l_keys_in
 have Gg := g_keys_in
 refine F.ok S (fun vs H Q E h => ?_) (fun cdv A outer s H vs Q E hx hcx hh hr D h => ?_)
 ·obtain ⟨L, n, F, rfl, _⟩ := h; rfl
 obtain ⟨L, n, F, rfl, hL, n64, hf, q⟩ := h
 refine ⟨_, (pss_one (ps_ret (cB (i := 0) Gg (call_sorted) T.nsorted bt_sorted (pa_cons (cmp (Nc := ["key"]) (caps := [none]) (j := 0) (N := ["places"]) (sc := defScope (top 37)) (Lc := []) ⟨rfl, by decide +kernel, by decide +kernel, by decide +kernel, rfl, by decide +kernel, by decide +kernel, rfl, rfl, by decide +kernel⟩ (pi_list (vn Vv 0)) (fun _ _ _ _ _ _ Vv Gg => (pf_one (pt_cmp (pc_notN (vn Vv 0))))) (fun _ _ _ _ _ _ Vv Gg => (vn Vv 0))) pa_nil)))), ?_⟩
 refine ⟨_, rfl, L, rfl, ⟨_, SqL.of hL⟩, fun D hD => comp_filter (xs := ringL n F) id (fun x => !decide (x = .non)) (SqL.of hL) hD (by rw [ringL_len]; omega) ?_ ?_ ?_⟩
 ·intro x H2 Q' hx sm hQ
  exact ⟨_, rfl, _, rfl, hQ⟩
 ·intro x H2 Q' hx hk sm hQ
  exact ⟨_, rfl, hQ⟩
 ·intro H2 sm hD2
  rw [ring_filter] at hD2
  exact ⟨D, seqN F n, rfl, SqL.of hD2, hf, fun l ks hl pm pw => q l ks _ (sm.trans (Same.new hl _)) (sm.free hl) upd_same pm pw⟩
end S60
namespace S60
open PySem L2 SC PyProof.Rows S40 Ly Gw
theorem sc_settle : FnScope ["rule", "places", "key", "place", "carried", "pushed"] ["rule", "places", "key"] (defScope (top 38)) := ⟨rfl, rfl, rfl, by decide +kernel, rfl, by decide +kernel, by decide +kernel⟩
theorem v_settle : Vs ["rule", "places", "key", "place", "carried", "pushed"] (defScope (top 38)) := Vs.of (by decide +kernel)
theorem l_settle : Ls ["rule", "places", "key", "place", "carried", "pushed"] (defScope (top 38)) := Ls.of sc_settle.nd (by decide +kernel)
theorem g_settle : Gs ["last_look", "next_place", "len"] (defScope (top 38)) := Gs.of (by decide +kernel)
theorem ok_settle {P : Program} {w : World} {K : PySem.W.Frag} {mg : Str → Option Value} {base : Heap} {f : Addr} {fd : FuncData} {cl : CN → Addr} (F : Fun K "settle" "settle" (top 38) f fd) (T : Tx K mg cl) (O_next_place : Own P w K mg base true 1 "next_place" ["place", "size"] (spNext)) (O_last_look : Own P w K mg base true 5 "last_look" ["rule", "places", "key"] (spLook)) :
  FnOk P w K mg base (CX1 P w) true 6 f fd ["rule", "places", "key"] (spSettle) := by
 have S := sc_settle
 have Vv := v_settle
 have Lo := l_settle
 have Gg := g_settle
 refine F.ok S (fun vs H Q E h => ?_) (fun cdv A outer s H vs Q E hx hcx hh hr D h => ?_)
 ·obtain ⟨v, L, r, n, F, k, rfl, _⟩ := h; rfl
 obtain ⟨v, L, r, n, F, k, rfl, hin, hL, ok, hk, hno, hfr, q⟩ := h
 have hp := passesXE (E := E) D
 refine ⟨_, (pss_cons (set_v (i := 3) Lo (cOwn (i := 0) Gg O_last_look (hr.mono (by decide)) passX (pa_cons (vn Vv 0) (pa_cons (vn Vv 1) (pa_cons (vn Vv 2) pa_nil)))))
  (pss_cons (set_v (i := 4) Lo (vn Vv 2))
  (pss_one (ps_while hp (pt_cmp (pc_notN (vn Vv 4))) (pss_cons (set_v (i := 5) Lo (pe_ix ix_list (vn Vv 1) (vn Vv 3) (fun _ _ => rfl)))
  (pss_cons (ps_asg (vn Vv 4) (pg_sub (vn Vv 1) (vn Vv 3) set_list))
  (pss_cons (set_v (i := 4) Lo (vn Vv 5))
  (pss_one (set_v (i := 3) Lo (cOwn (i := 1) Gg O_next_place (hr.mono (by decide)) passX (pa_cons (vn Vv 3) (pa_cons (cB (i := 2) Gg (call_len_seq) T.nlen bt_len (pa_cons (vn Vv 1) pa_nil)) pa_nil)))))))))))), ?_⟩
 obtain ⟨ra, rk, n2, n1⟩ := id hin
 have hh := hm_lt rk (show 0 < n by omega)
 obtain ⟨e0, he0, hF0⟩ := ok.e
 obtain ⟨q0, hq0⟩ := first_ex he0 hF0 (hh k)
 obtain ⟨e, he, hF, hne⟩ := free_two hfr q0
 have hlast : lin n e F (n - 1) = none := by rw [lin_at (by omega), rho_last he]; exact hF
 refine ⟨_, rfl, _, rfl, _, rfl, v, L, r, n, e, F, k, rfl, hin, hL, ok, he, hF, hk, fun p p1 p2 p3 p4 => ?_⟩
 refine ⟨_, rfl, ?_⟩
 refine ⟨InvSet v L k n e p F H,
  ⟨_, p, none, by unfold car; rw [if_pos rfl]; rfl, fun _ _ => rfl, by rw [stg_start, ring_self he]; exact hL, Nat.le_refl _, p2, fun u h1 h2 => by omega, rfl⟩, ?_⟩
 rintro m σ H2 ⟨j, x, rfl, hfrm, hL2, h1, h2, h3, h4⟩
 refine ⟨_, rfl, _, rfl, ?_⟩
 cases hc : car (lin n e F) k p j with
 | none =>
  have hjp : j ≠ p := fun z => by unfold car at hc; rw [if_pos z] at hc; cases hc
  have hq : lin n e F (j - 1) = none := by unfold car at hc; rw [if_neg hjp] at hc; exact hc
  refine iteF ?_
  have ej : j = (j - 1) + 1 := by omega
  rw [ej, stg_put (by omega)] at hL2
  obtain ⟨g1, g2, g3, g4, g5⟩ := ring_put ok.lay he hF hh hno p1 p3 p4 (show p ≤ j - 1 by omega) (fun u u1 u2 => h3 u u1 (by omega)) hq (by omega)
  have hH : H2 = upd H L (.lst (ringL n (ringF n e (putP (lin n e F) k p (j - 1))))) := by
   funext b
   by_cases c : b = L
   ·rw [c, upd_same]; exact hL2
   ·rw [upd_ne c]; exact hfrm b c
  rw [hH]
  have hqe : rho n e (j - 1) ≠ e := fun z => hne (by rw [← z]; exact g3.one (hh k) hq0 (fun _ _ => Iff.rfl))
  refine q _ (rho n e (j - 1)) ⟨⟨g1, fun i y hi hy => ?_, e, he, (g4 e he).mpr ⟨hF, hqe.symm⟩⟩, g2, g3, g4, g5⟩
  rcases (g2 y).mp ⟨i, hi, hy⟩ with z | ⟨i', hi', hy'⟩
  ·rw [z]; exact hk
  ·exact ok.keys i' y hi' hy'
 | some c0 =>
  have hall : ∀ u, p ≤ u → u < j → ∃ y, lin n e F u = some y := fun u u1 u2 => by
   by_cases cu : u + 1 < j
   ·exact h3 u u1 cu
   ·have : u = j - 1 := by omega
    subst this
    unfold car at hc
    rw [if_neg (by omega)] at hc
    exact ⟨c0, hc⟩
  have hjn : j ≠ n - 1 := fun z => by
   have FE : FirstE n F (hm r n k) (rho n e j) := FirstE.of he (hh k) (by omega) h2 (by rw [z]; exact hlast) fun u u1 u2 => by
    by_cases cu : u < p
    ·obtain ⟨y, hy, _⟩ := p3 u u1 cu; exact ⟨y, hy⟩
    ·exact hall u (by omega) u2
   refine hne ?_
   rw [← FE.one (hh k) hq0 (fun _ _ => Iff.rfl), z, rho_last he]
  refine iteT ⟨_, fun _ _ h => h, ?_⟩
  have hg : (ringL n (ringF n e (stg (lin n e F) k p j)))[rho n e j]? = some (toV (lin n e F j)) := by rw [ring_get he h2, stg_at h1]
  refine ⟨_, rfl, _, rfl, L, _, _, _, rfl, rfl, SqL.of hL2, atI_nat hg, ?_⟩
  refine ⟨_, rfl, _, rfl, _, rfl, L, _, _, rho n e j, rfl, rfl, hL2, ixN_nat (by rw [ringL_len]; exact rho_lt he h2), ?_⟩
  refine ⟨_, rfl, _, rfl, _, rfl, L, _, rfl, .inl (SqL.of upd_same), _, _, rfl, ?_, ?_⟩
  ·rw [List.length_set, ringL_len]; omega
  refine ⟨n - (j + 1), by omega, j + 1, some (toV (lin n e F j)), ?_, fun b hb => by rw [upd_ne hb]; exact hfrm b hb, ?_, by omega, by omega, fun u u1 u2 => hall u u1 (by omega), rfl⟩
  ·rw [List.length_set, ringL_len, ← nx_rho he (by omega), ← nx_int (rho_lt he h2)]
   unfold car
   rw [if_neg (show j + 1 ≠ p by omega), Nat.add_sub_cancel]
   rfl
  ·rw [upd_same, ← hc, ring_set he h2, stg_step h1]
end S60
namespace S60
open PySem L2 SC PyProof.Rows S40 Ly Gw
theorem sc_take_out : FnScope ["rule", "places", "key", "size", "gap", "behind"] ["rule", "places", "key"] (defScope (top 39)) := ⟨rfl, rfl, rfl, by decide +kernel, rfl, by decide +kernel, by decide +kernel⟩
theorem v_take_out : Vs ["rule", "places", "key", "size", "gap", "behind"] (defScope (top 39)) := Vs.of (by decide +kernel)
theorem l_take_out : Ls ["rule", "places", "key", "size", "gap", "behind"] (defScope (top 39)) := Ls.of sc_take_out.nd (by decide +kernel)
theorem g_take_out : Gs ["len", "last_look", "next_place", "way_of"] (defScope (top 39)) := Gs.of (by decide +kernel)
theorem ok_take_out {P : Program} {w : World} {K : PySem.W.Frag} {mg : Str → Option Value} {base : Heap} {f : Addr} {fd : FuncData} {cl : CN → Addr} (F : Fun K "take_out" "take_out" (top 39) f fd) (T : Tx K mg cl) (O_next_place : Own P w K mg base true 1 "next_place" ["place", "size"] (spNext)) (O_way_of : Own P w K mg base true 3 "way_of" ["rule", "key", "place", "size"] (spWayOf)) (O_last_look : Own P w K mg base true 5 "last_look" ["rule", "places", "key"] (spLook)) :
  FnOk P w K mg base (CX1 P w) true 6 f fd ["rule", "places", "key"] (spTakeOut) := by
 have S := sc_take_out
 have Vv := v_take_out
 have Lo := l_take_out
 have Gg := g_take_out
 refine F.ok S (fun vs H Q E h => ?_) (fun cdv A outer s H vs Q E hx hcx hh hr D h => ?_)
 ·obtain ⟨v, L, r, n, F, k, rfl, _⟩ := h; rfl
 obtain ⟨v, L, r, n, F, k, rfl, hin, hL, ok, hk, hhas, q⟩ := h
 have hp := passesXE (E := E) D
 refine ⟨_, (pss_cons (set_v (i := 3) Lo (cB (i := 0) Gg (call_len_seq) T.nlen bt_len (pa_cons (vn Vv 1) pa_nil)))
  (pss_cons (set_v (i := 4) Lo (cOwn (i := 1) Gg O_last_look (hr.mono (by decide)) passX (pa_cons (vn Vv 0) (pa_cons (vn Vv 1) (pa_cons (vn Vv 2) pa_nil)))))
  (pss_cons (set_v (i := 5) Lo (cOwn (i := 2) Gg O_next_place (hr.mono (by decide)) passX (pa_cons (vn Vv 4) (pa_cons (vn Vv 3) pa_nil))))
  (pss_cons (ps_while hp (PW.pt (pw_and (pt_cmp (pc_notN (pe_ix ix_list (vn Vv 1) (vn Vv 5) (fun _ _ => rfl)))) (pw_and1 (pt_cmpR op_gt (cOwn (i := 3) Gg O_way_of (hr.mono (by decide)) passX (pa_cons (vn Vv 0) (pa_cons (pe_ix ix_list (vn Vv 1) (vn Vv 5) (fun _ _ => rfl)) (pa_cons (vn Vv 5) (pa_cons (vn Vv 3) pa_nil))))) pe_int (nomark _))))) (pss_cons (ps_asg (pe_ix ix_list (vn Vv 1) (vn Vv 5) (fun _ _ => rfl)) (pg_sub (vn Vv 1) (vn Vv 4) set_list))
  (pss_cons (set_v (i := 4) Lo (vn Vv 5))
  (pss_one (set_v (i := 5) Lo (cOwn (i := 2) Gg O_next_place (hr.mono (by decide)) passX (pa_cons (vn Vv 4) (pa_cons (vn Vv 3) pa_nil))))))))
  (pss_one (ps_asg pe_non (pg_sub (vn Vv 1) (vn Vv 4) set_list))))))), ?_⟩
 obtain ⟨ra, rk, n2, n1⟩ := id hin
 have hh := hm_lt rk (show 0 < n by omega)
 obtain ⟨e, he, hF⟩ := ok.e
 have LL := ok.lay.lin he hF hh
 have hlast : lin n e F (n - 1) = none := by rw [lin_at (by omega), rho_last he]; exact hF
 refine ⟨_, rfl, L, _, rfl, .inl (SqL.of hL), ?_⟩
 rw [ringL_len]
 refine ⟨_, rfl, _, rfl, _, rfl, v, L, r, n, e, F, k, rfl, hin, hL, ok, he, hF, hk, fun p p1 p2 p3 p4 => ?_⟩
 have hp : lin n e F p = some k := by
  obtain ⟨i, hi⟩ := (has_lin he k).mpr hhas
  rcases Nat.lt_trichotomy p i with c | c | c
  ·obtain ⟨y, hy, hl⟩ := LL.lay i k hi p p1 c
   exact absurd hl (p4 y hy)
  ·rw [c]; exact hi
  ·obtain ⟨y, hy, hl⟩ := p3 i (LL.le i k hi) c
   rw [hi] at hy; cases hy
   exact absurd hl lt_irr
 have hpn : p + 1 < n := by
  have : p ≠ n - 1 := fun z => by rw [z, hlast] at hp; cases hp
  omega
 refine ⟨_, rfl, _, rfl, _, _, rfl, by omega, ?_⟩
 refine ⟨InvTk v L k n e p (hm r n) F H, ⟨_, p, ?_, fun _ _ => rfl, by rw [dstg_start, ring_self he]; exact hL, Nat.le_refl _, hpn, fun u h1 h2 => by omega, rfl⟩, ?_⟩
 ·unfold stTk
  rw [← nx_rho he hpn, ← nx_int (rho_lt he p2)]; rfl
 rintro m σ H2 ⟨j, rfl, hfrm, hL2, h1, h2, h3, h4⟩
 have hj1 := rho_lt he h2
 have hg : (ringL n (ringF n e (dstg (lin n e F) p j)))[rho n e (j + 1)]? = some (toV (lin n e F (j + 1))) := by rw [ring_get he h2, dstg_at h1 (by omega)]
 have fin : (∀ y, lin n e F (j + 1) = some y → off n e (hm r n y) = j + 1) → ∀ b, b = upd H2 L (.lst ((ringL n (ringF n e (dstg (lin n e F) p j))).set (rho n e j) (toV none))) → Q .non b := fun h5 b eb => by
  obtain ⟨g1, g2, g3⟩ := ring_drop (r := j) ok.lay he hF hh hp h1 h3 h5 (by omega)
  have hH : b = upd H L (.lst (ringL n (ringF n e (dropF (lin n e F) p j)))) := by
   rw [eb]
   funext c
   by_cases cc : c = L
   ·rw [cc, upd_same, upd_same, ring_set he (by omega), dstg_drop h1]
   ·rw [upd_ne cc, upd_ne cc]; exact hfrm c cc
  rw [hH]
  refine q _ ⟨⟨g1, fun i y hi hy => ?_, e, he, g3⟩, g2⟩
  obtain ⟨i', hi', hy'⟩ := ((g2 y).mp ⟨i, hi, hy⟩).2
  exact ok.keys i' y hi' hy'
 refine ⟨_, rfl, _, rfl, L, _, _, _, rfl, rfl, SqL.of hL2, atI_nat hg, _, rfl, ?_⟩
 cases hy : lin n e F (j + 1) with
 | none => exact iteF (iteF ⟨_, rfl, _, rfl, L, _, _, rho n e j, rfl, rfl, hL2, ixN_nat (by rw [ringL_len]; exact rho_lt he (by omega)), fin (fun y z => by rw [hy] at z; cases z) _ rfl⟩)
 | some y =>
  have ky := ok.keys _ y hj1 (by have := (lin_lt hy).2; exact this)
  have ly := LL.le _ y hy
  refine iteT ⟨_, rfl, _, rfl, _, rfl, L, _, _, _, rfl, rfl, SqL.of hL2, atI_nat hg, _, rfl, _, rfl, v, r, n, rho n e (j + 1), y, by rw [hy]; rfl, ⟨ra.frame hL hfrm, rk, n2, n1⟩, ky, hj1, ?_⟩
  rw [dist_look he (hh y) ly h2]
  refine ⟨_, _, rfl, rfl, _, rfl, ite2 (fun c => ?_) fun c => ?_⟩
  ·have hc : off n e (hm r n y) < j + 1 := by have := of_decide_eq_true c; omega
   have hjn : j + 1 ≠ n - 1 := fun z => by rw [z, hlast] at hy; cases hy
   refine ⟨_, fun _ _ h => h, ?_⟩
   refine ⟨_, rfl, _, rfl, L, _, _, _, rfl, rfl, SqL.of hL2, atI_nat hg, ?_⟩
   refine ⟨_, rfl, _, rfl, L, _, _, rho n e j, rfl, rfl, hL2, ixN_nat (by rw [ringL_len]; exact rho_lt he (by omega)), ?_⟩
   refine ⟨_, rfl, _, rfl, _, rfl, _, _, rfl, by omega, ?_⟩
   refine ⟨n - (j + 1), by omega, j + 1, ?_, fun b hb => by rw [upd_ne hb]; exact hfrm b hb, ?_, by omega, by omega, fun u u1 u2 => ?_, rfl⟩
   ·unfold stTk
    rw [← nx_rho he (show j + 1 + 1 < n by omega), ← nx_int hj1]; rfl
   ·rw [upd_same, ring_set he (by omega), dstg_step h1]
   ·by_cases cu : u = j + 1
    ·subst cu; exact ⟨y, hy, hc⟩
    ·exact h3 u u1 (by omega)
  ·exact ⟨_, rfl, _, rfl, L, _, _, rho n e j, rfl, rfl, hL2, ixN_nat (by rw [ringL_len]; exact rho_lt he (by omega)), fin (fun y' z => by
    rw [hy] at z
    cases z
    have : ¬ ((j + 1 - off n e (hm r n y) : Nat) : Int) > 0 := fun w => c (decide_eq_true w)
    omega) _ rfl⟩
end S60
namespace S60
open PySem L2 SC PyProof.Rows S40 Ly Gw
theorem sc_is_crowded_by_one_more : FnScope ["places"] ["places"] (defScope (top 44)) := ⟨rfl, rfl, rfl, by decide +kernel, rfl, by decide +kernel, by decide +kernel⟩
theorem v_is_crowded_by_one_more : Vs ["places"] (defScope (top 44)) := Vs.of (by decide +kernel)
theorem l_is_crowded_by_one_more : Ls ["places"] (defScope (top 44)) := Ls.of sc_is_crowded_by_one_more.nd (by decide +kernel)
theorem g_is_crowded_by_one_more : Gs ["len", "keys_in"] (defScope (top 44)) := Gs.of (by decide +kernel)
theorem ok_is_crowded_by_one_more {P : Program} {w : World} {K : PySem.W.Frag} {mg : Str → Option Value} {base : Heap} {f : Addr} {fd : FuncData} {cl : CN → Addr} (F : Fun K "is_crowded_by_one_more" "is_crowded_by_one_more" (top 44) f fd) (T : Tx K mg cl) (O_keys_in : Own P w K mg base true 1 "keys_in" ["places"] (spKeysIn)) :
  FnOk P w K mg base (CX1 P w) true 2 f fd ["places"] (spCrowd) := by
 have S := sc_is_crowded_by_one_more
 have Vv := v_is_crowded_by_one_more
 have Lo := l_is_crowded_by_one_more
 have Gg := g_is_crowded_by_one_more
 refine F.ok S (fun vs H Q E h => ?_) (fun cdv A outer s H vs Q E hx hcx hh hr D h => ?_)
 ·obtain ⟨L, n, F, rfl, _⟩ := h; rfl
 obtain ⟨L, n, F, rfl, hL, hn, hl, q⟩ := h
 refine ⟨_, (pss_one (ps_ret (pe_cmpR op_gt (pe_op op_mulA pe_int (pe_op op_add (cB (i := 0) Gg (call_len_seq) T.nlen bt_len (pa_cons (cOwn (i := 1) Gg O_keys_in (hr.mono (by decide)) passX (pa_cons (vn Vv 0) pa_nil)) pa_nil)) pe_int)) (pe_op op_mulA pe_int (cB (i := 0) Gg (call_len_seq) T.nlen bt_len (pa_cons (vn Vv 0) pa_nil))) (nomark _)))), ?_⟩
 refine ⟨_, rfl, L, n, F, rfl, hL, hn, hl, fun l ks H' s0 hl0 hl' pm pw => ⟨l, _, rfl, .inl (SqL.of hl'), _, _, rfl, rfl, _, _, rfl, rfl, mulC (by omega) (by rw [List.length_map, pm.length_eq]; omega), _, rfl, L, _, rfl, .inl (SqL.of (s0 _ _ hL)), _, _, rfl, rfl, mulC (by omega) (by rw [ringL_len]; omega), _, _, rfl, rfl, ?_⟩⟩
 have e : decide (3 * (((ringL n F).length : Nat) : Int) < 4 * ((((ks.map V.int).length : Nat) : Int) + 1)) = decide (3 * n < 4 * ((seqN F n).length + 1)) := by
  rw [ringL_len, List.length_map, pm.length_eq]
  exact decide_eq_decide.mpr (by omega)
 have := q H' s0
 rw [← e] at this
 exact this
end S60
namespace S60
open PySem L2 SC PyProof.Rows S40 Ly Gw
theorem sc_Growing___init__ : FnScope ["self", "rule", "size", "step"] ["self", "rule", "size", "step"] (defScope (inClass (top 45) 0)) := ⟨rfl, rfl, rfl, by decide +kernel, rfl, by decide +kernel, by decide +kernel⟩
theorem v_Growing___init__ : Vs ["self", "rule", "size", "step"] (defScope (inClass (top 45) 0)) := Vs.of (by decide +kernel)
theorem l_Growing___init__ : Ls ["self", "rule", "size", "step"] (defScope (inClass (top 45) 0)) := Ls.of sc_Growing___init__.nd (by decide +kernel)
theorem g_Growing___init__ : Gs ["check_rule", "check_size", "check_count", "LEAST_STEP", "MOST_STEP"] (defScope (inClass (top 45) 0)) := Gs.of (by decide +kernel)
theorem ok_Growing___init__ {P : Program} {w : World} {K : PySem.W.Frag} {mg : Str → Option Value} {base : Heap} {f : Addr} {fd : FuncData} {cl : CN → Addr} (F : Fun K "__init__" "Growing.__init__" (inClass (top 45) 0) f fd) (T : Tx K mg cl) (O_check_rule : Own P w K mg base true 4 "check_rule" ["rule"] (spCheckRule (cl .BadRule))) (O_check_size : Own P w K mg base true 2 "check_size" ["size"] (spCheckSize (cl .BadSize))) (O_check_count : Own P w K mg base true 2 "check_count" ["count", "least", "most"] (spCheckCount (cl .BadSize))) :
  FnOk P w K mg base (CX1 P w) true 5 f fd ["self", "rule", "size", "step"] (spGNew (cl .Growing) (cl .BadRule) (cl .BadSize)) := by
 have S := sc_Growing___init__
 have Vv := v_Growing___init__
 have Lo := l_Growing___init__
 have Gg := g_Growing___init__
 refine F.ok S (fun vs H Q E h => ?_) (fun cdv A outer s H vs Q E hx hcx hh hr D h => ?_)
 ·obtain ⟨x, dx, v, z, w, T, U, rfl, _⟩ := h; rfl
 obtain ⟨x, dx, v, z, w, Tz, Tw, rfl, hx0, pl, kz, kw, q1, q2, q3⟩ := h
 refine ⟨_, (pss_cons (ps_expr (cOwn (i := 0) Gg O_check_rule (hr.mono (by decide)) passX (pa_cons (vn Vv 1) pa_nil)))
  (pss_cons (ps_expr (cOwn (i := 1) Gg O_check_size (hr.mono (by decide)) passX (pa_cons (vn Vv 2) pa_nil)))
  (pss_cons (ps_expr (cOwn (i := 2) Gg O_check_count (hr.mono (by decide)) passX (pa_cons (vn Vv 3) (pa_cons (nCon (i := 3) Gg T.cLEAST_STEP) (pa_cons (nCon (i := 4) Gg T.cMOST_STEP) pa_nil)))))
  (pss_cons (ps_fld (vn Vv 0) (vn Vv 1) rfl)
  (pss_cons (ps_fld (vn Vv 0) (vn Vv 3) rfl)
  (pss_cons (ps_fld (vn Vv 0) pe_int rfl)
  (pss_cons (ps_fld (vn Vv 0) pe_non rfl)
  (pss_one (ps_fld (vn Vv 0) (pe_op op_rep (pe_lst (pa_cons pe_non pa_nil)) (vn Vv 2)) rfl))))))))), ?_⟩
 have hz : 100000 < sizeLine := by decide
 refine ⟨_, rfl, v, rfl, pl, fun H1 s1 => ite2 (fun c => ?_) fun c => q1 (Bool.eq_false_iff.mpr c) H1 s1⟩
 obtain ⟨r, ra, rk⟩ := ofRule c
 refine ⟨_, rfl, z, Tz, rfl, kz.same s1, ite2 (fun c2 => ?_) fun c2 => q2 c (.inl (Bool.eq_false_iff.mpr c2)) H1 s1⟩
 obtain ⟨zi, rfl, z1, z2⟩ := ofWhole c2
 obtain ⟨n, rfl⟩ : ∃ n : Nat, zi = n := ⟨zi.toNat, by omega⟩
 refine ⟨_, rfl, w, 1, 4, Tw, rfl, kw.same s1, ite2 (fun c3 => ?_) fun c3 => q2 c (.inr (Bool.eq_false_iff.mpr c3)) H1 s1⟩
 obtain ⟨wi, rfl, w1, w2⟩ := ofWhole c3
 obtain ⟨st, rfl⟩ : ∃ n : Nat, wi = n := ⟨wi.toNat, by omega⟩
 have hx1 := s1 _ _ hx0
 have sx0 : SameX x H H1 := fun b u _ hu => s1 b u hu
 refine ⟨_, rfl, _, rfl, x, _, dx, _, rfl, hx1, T.clGrowing, T.nGrowing_rule, by decide, ?_⟩
 rw [show (putF "rule" v ([] : List (Str × V))) = ([("rule", v)] : List (Str × V)) from rfl]
 have sxA := sx0.set (.ins (cl .Growing) dx [("rule", v)])
 have hxA : upd H1 x (.ins (cl .Growing) dx [("rule", v)]) x = some (.ins (cl .Growing) dx [("rule", v)]) := upd_same
 generalize upd H1 x (.ins (cl .Growing) dx [("rule", v)]) = HA at sxA hxA ⊢
 refine ⟨_, rfl, _, rfl, x, _, dx, _, rfl, hxA, T.clGrowing, T.nGrowing_moves_each, (show 1 < 1000 by decide), ?_⟩
 rw [show (putF "moves_each" (.int st) ([("rule", v)] : List (Str × V))) = ([("rule", v), ("moves_each", .int st)] : List (Str × V)) from rfl]
 have sxB := sxA.set (.ins (cl .Growing) dx [("rule", v), ("moves_each", .int st)])
 have hxB : upd HA x (.ins (cl .Growing) dx [("rule", v), ("moves_each", .int st)]) x = some (.ins (cl .Growing) dx [("rule", v), ("moves_each", .int st)]) := upd_same
 generalize upd HA x (.ins (cl .Growing) dx [("rule", v), ("moves_each", .int st)]) = HB at sxB hxB ⊢
 refine ⟨_, rfl, x, _, dx, _, rfl, hxB, T.clGrowing, T.nGrowing_moves_so_far, (show 2 < 1000 by decide), ?_⟩
 rw [show (putF "moves_so_far" (.int 0) ([("rule", v), ("moves_each", .int st)] : List (Str × V))) = ([("rule", v), ("moves_each", .int st), ("moves_so_far", .int 0)] : List (Str × V)) from rfl]
 have sxC := sxB.set (.ins (cl .Growing) dx [("rule", v), ("moves_each", .int st), ("moves_so_far", .int 0)])
 have hxC : upd HB x (.ins (cl .Growing) dx [("rule", v), ("moves_each", .int st), ("moves_so_far", .int 0)]) x = some (.ins (cl .Growing) dx [("rule", v), ("moves_each", .int st), ("moves_so_far", .int 0)]) := upd_same
 generalize upd HB x (.ins (cl .Growing) dx [("rule", v), ("moves_each", .int st), ("moves_so_far", .int 0)]) = HC at sxC hxC ⊢
 refine ⟨_, rfl, x, _, dx, _, rfl, hxC, T.clGrowing, T.nGrowing_older, (show 3 < 1000 by decide), ?_⟩
 rw [show (putF "older" .non ([("rule", v), ("moves_each", .int st), ("moves_so_far", .int 0)] : List (Str × V))) = ([("rule", v), ("moves_each", .int st), ("moves_so_far", .int 0), ("older", .non)] : List (Str × V)) from rfl]
 have sxD := sxC.set (.ins (cl .Growing) dx [("rule", v), ("moves_each", .int st), ("moves_so_far", .int 0), ("older", .non)])
 have hxD : upd HC x (.ins (cl .Growing) dx [("rule", v), ("moves_each", .int st), ("moves_so_far", .int 0), ("older", .non)]) x = some (.ins (cl .Growing) dx [("rule", v), ("moves_each", .int st), ("moves_so_far", .int 0), ("older", .non)]) := upd_same
 generalize upd HC x (.ins (cl .Growing) dx [("rule", v), ("moves_each", .int st), ("moves_so_far", .int 0), ("older", .non)]) = HD at sxD hxD ⊢
 refine ⟨(show 1 ≤ sizeLine by decide), fun l0 hl0 => ⟨_, rfl, l0, n, _, rfl, rfl, upd_same, by omega, by omega, ?_, fun L hL => ?_⟩⟩
 ·rw [Int.toNat_natCast]; simp only [List.length_cons, List.length_nil]; omega
 rw [Int.toNat_natCast, rep_nil]
 have sE := (Same.new hl0 (.lst [.non])).trans (Same.new hL (.lst (ringL n fun _ => none)))
 have hLD := (Same.new hl0 (.lst [.non])).free hL
 have hLE : upd (upd HD l0 (.lst [.non])) L (.lst (ringL n fun _ => none)) L = some (.lst (ringL n fun _ => none)) := upd_same
 generalize upd (upd HD l0 (.lst [.non])) L (.lst (ringL n fun _ => none)) = HE at sE hLE ⊢
 have hLx : L ≠ x := fun z => by rw [z, hxD] at hLD; cases hLD
 have hLn : H L = none := by
  cases e : H L with
  | none => rfl
  | some u => rw [sxD L u hLx e] at hLD; cases hLD
 refine ⟨_, rfl, x, _, dx, _, rfl, sE _ _ hxD, T.clGrowing, T.nGrowing_newer, (show 4 < 1000 by decide), ?_⟩
 have sxF := (sxD.more sE).set (.ins (cl .Growing) dx (grF v st 0 none L))
 exact q3 r n st ra rk rfl (by omega) (by omega) rfl (by omega) (by omega) L _ hLn sxF ⟨⟨⟨dx, v, upd_same, RlAt.sameX hx0 sxF ra⟩, rk, ⟨by omega, by omega⟩, (by show n ≤ 1024; omega), ⟨fun _ => none, (by rw [upd_ne hLx]; exact hLE), row_new r (by show 0 < n; omega), fun k => ⟨(fun ⟨_, _, h⟩ => nomatch h), (fun h => nomatch h)⟩⟩, (fun _ e => nomatch e), fun _ => rfl⟩, fin_new (by omega), fun _ => rfl, (by show 0 ≤ 40; decide)⟩
end S60
namespace S60
open PySem L2 SC PyProof.Rows S40 Ly Gw
theorem sc_Growing_move_keys : FnScope ["self", "keys", "key"] ["self"] (defScope (inClass (top 45) 9)) := ⟨rfl, rfl, rfl, by decide +kernel, rfl, by decide +kernel, by decide +kernel⟩
theorem v_Growing_move_keys : Vs ["self", "keys", "key"] (defScope (inClass (top 45) 9)) := Vs.of (by decide +kernel)
theorem l_Growing_move_keys : Ls ["self", "keys", "key"] (defScope (inClass (top 45) 9)) := Ls.of sc_Growing_move_keys.nd (by decide +kernel)
theorem g_Growing_move_keys : Gs ["keys_in", "take_out", "settle", "len"] (defScope (inClass (top 45) 9)) := Gs.of (by decide +kernel)
theorem ok_Growing_move_keys {P : Program} {w : World} {K : PySem.W.Frag} {mg : Str → Option Value} {base : Heap} {f : Addr} {fd : FuncData} {cl : CN → Addr} (F : Fun K "move_keys" "Growing.move_keys" (inClass (top 45) 9) f fd) (T : Tx K mg cl) (O_keys_in : Own P w K mg base true 1 "keys_in" ["places"] (spKeysIn)) (O_settle : Own P w K mg base true 6 "settle" ["rule", "places", "key"] (spSettle)) (O_take_out : Own P w K mg base true 6 "take_out" ["rule", "places", "key"] (spTakeOut)) :
  FnOk P w K mg base (CX1 P w) true 7 f fd ["self"] (spMoveKeys (cl .Growing)) := by
 have S := sc_Growing_move_keys
 have Vv := v_Growing_move_keys
 have Lo := l_Growing_move_keys
 have Gg := g_Growing_move_keys
 refine F.ok S (fun vs H Q E h => ?_) (fun cdv A outer s H vs Q E hx hcx hh hr D h => ?_)
 ·obtain ⟨t, Ln, oL, r, st, s, rfl, _⟩ := h; rfl
 obtain ⟨t, Ln, oL, r, st, g, rfl, ga, mid, ht40, q⟩ := h
 have hp := passesXE (E := E) D
 refine ⟨_, (pss_cons (ps_if (pt_cmp (pc_isN (pe_fld (vn Vv 0) rfl))) (pss_one ps_retN) pss_nil)
  (pss_cons (set_v (i := 1) Lo (cOwn (i := 0) Gg O_keys_in (hr.mono (by decide)) passX (pa_cons (pe_fld (vn Vv 0) rfl) pa_nil)))
  (pss_cons (ps_for hp (pi_list (pe_slice sl_list (vn Vv 1) po_none (po_some (pe_fld (vn Vv 0) rfl)))) (tgt_v (i := 2) Lo)
  (pss_cons (ps_expr (cOwn (i := 1) Gg O_take_out (hr.mono (by decide)) passX (pa_cons (pe_fld (vn Vv 0) rfl) (pa_cons (pe_fld (vn Vv 0) rfl) (pa_cons (vn Vv 2) pa_nil)))))
  (pss_cons (ps_expr (cOwn (i := 2) Gg O_settle (hr.mono (by decide)) passX (pa_cons (pe_fld (vn Vv 0) rfl) (pa_cons (pe_fld (vn Vv 0) rfl) (pa_cons (vn Vv 2) pa_nil)))))
  (pss_one (ps_fld (vn Vv 0) (pe_op op_add (pe_fld (vn Vv 0) rfl) pe_int) rfl)))))
  (pss_one (ps_if (pt_cmpR op_le (cB (i := 3) Gg (call_len_seq) T.nlen bt_len (pa_cons (vn Vv 1) pa_nil)) (pe_fld (vn Vv 0) rfl) (nomark _)) (pss_one (ps_fld (vn Vv 0) pe_non rfl)) pss_nil))))), ?_⟩
 obtain ⟨dx, v, ht, ra⟩ := ga.obj
 obtain ⟨F, rg⟩ := ga.new
 have hz : 100000 < sizeLine := by decide
 have hn1 := ga.n1
 have hn2 := mid.n2
 have htot : g.ko.length + g.kn.length ≤ 40 := ht40
 have nd := List.nodup_append.mp mid.nd
 refine sq4 fun t1 t2 t3 t4 DD a1 a2 a3 a4 aD => ?_
 cases oL with
 | none =>
  have hko := ga.non rfl
  subst a1
  refine ⟨_, rfl, t, _, dx, _, .non, rfl, ht, T.clGrowing, T.nGrowing_older, rfl, _, rfl, iteT ?_⟩
  subst aD
  exact q none H (by rw [mov_nil hko]; exact ga) (fun _ => rfl) (Fr.same _ (Same.refl H))
 | some L =>
  obtain ⟨hLL, m, F1, hm1, hm2, ro⟩ := ga.old L rfl
  refine seq_cut (fun σ' H' => σ' = [some (.ref t), none, none] ∧ H' = H) (fun U hU => ?_) ?_
  ·subst a1
   exact ⟨_, rfl, t, _, dx, _, .ref L, rfl, ht, T.clGrowing, T.nGrowing_older, rfl, _, rfl, iteF (hU _ _ ⟨rfl, rfl⟩)⟩
  rintro σ' H0 ⟨rfl, rfl⟩
  have hlen : (seqN F1 m).length = g.ko.length := (seq_perm ro.ok nd.1 ro.has).length_eq
  refine seq_cut (fun σ' H' => ∃ l, σ' = [some (.ref t), some (.ref l), none] ∧ Same H0 H' ∧ H0 l = none ∧ H' l = some (.lst ((srt g.ko).map V.int))) (fun U hU => ?_) ?_
  ·subst a2
   refine ⟨_, rfl, t, _, dx, _, .ref L, rfl, ht, T.clGrowing, T.nGrowing_older, rfl, L, m, F1, rfl, ro.pl, by omega, by omega, fun l ks H1 s1 hl0 hl pm pw => hU _ _ ⟨l, rfl, s1, hl0, ?_⟩⟩
   rw [← srt_of (pm.trans (seq_perm ro.ok nd.1 ro.has)) pw]
   exact hl
  rintro σ' H1 ⟨l, rfl, s1, hl0, hl1⟩
  have ga1 := ga.same s1
  have hnin : ∀ b, H0 b = none → b ∉ mutG t Ln (some L) := fun b hb z => by
   have := mut_sub (t := t) (Ln := Ln) (oL := some L) (Ln' := Ln) (oL' := some L) (P := fun b => ∃ u, H0 b = some u) ⟨_, ht⟩ ⟨_, rg.pl⟩ (fun L' e => by cases e; exact ⟨_, ro.pl⟩) b z
   obtain ⟨u, hu⟩ := this
   rw [hb] at hu
   cases hu
  refine seq_cut (fun σ' H' => ∃ x, σ' = [some (.ref t), some (.ref l), x] ∧ GrAt (cl .Growing) H' t Ln (some L) r st (movS g st) ∧ Fr H1 H' (mutG t Ln (some L)) (mutG t Ln (some L))) (fun U hU => ?_) ?_
  ·subst a3
   refine ⟨_, rfl, _, rfl, t, _, dx, _, .int st, rfl, s1 _ _ ht, T.clGrowing, T.nGrowing_moves_each, rfl, (st : Int), rfl, l, _, rfl, SqL.of hl1, fun p hp => ?_⟩
   rw [cut_take]
   have s2 := Same.new hp (.lst (((srt g.ko).take st).map V.int))
   have hp2 : upd H1 p (.lst (((srt g.ko).take st).map V.int)) p = some (.lst ((mvs g st).map V.int)) := upd_same
   have hpm : p ∉ mutG t Ln (some L) := hnin p (s1.free hp)
   generalize upd H1 p (.lst (((srt g.ko).take st).map V.int)) = H2 at s2 hp2 ⊢
   refine ⟨p, rfl, ⟨_, SqL.of hp2⟩, for_list (xs := (mvs g st).map V.int) (InvMv (cl .Growing) H2 t l p Ln L r st g (mvs g st)) ⟨none, rfl, by rw [gone_zero]; exact ga1.same s2, Fr.same _ (Same.refl _)⟩ (fun j σ' H' _ ⟨_, _, _, f⟩ => SqL.of (fr_keep f hpm hp2)) ?_ ?_⟩
   ·rintro j x σ H3 hx ⟨x0, rfl, ga3, f3⟩
    obtain ⟨k, hk, rfl⟩ := ints_at hx
    have hj : j < (mvs g st).length := (List.getElem?_eq_some_iff.mp hk).1
    have mid3 := gone_mid mid (mvs_nd (st := st) nd.1) mvs_mem (Nat.le_of_lt hj)
    have hmem := gone_mem (mvs_nd (st := st) nd.1) mvs_mem hk
    obtain ⟨⟨dx3, v3, ht3, ra3⟩, rk3, st43, n13, ⟨F3, rg3⟩, old3, _⟩ := id ga3
    obtain ⟨_, m3, G3, hm3, hm32, ro3⟩ := old3 L rfl
    have est := gone_step (s := g) hk
    have en : (goneS g (mvs g st) j).n = g.n := rfl
    generalize goneS g (mvs g st) j = gj at ga3 mid3 hmem ht3 rg3 old3 ro3 est en n13 hm3
    have nd3 := List.nodup_append.mp mid3.nd
    have kb := mid3.bd k (List.mem_append.mpr (.inl hmem))
    have hnk : k ∉ gj.kn := fun z => nd3.2.2 k hmem k z rfl
    have hfr := free_of rg3.ok nd3.2.1 rg3.has
    have hlo := mid3.lo
    have hpos : 0 < gj.ko.length := List.length_pos_of_mem hmem
    have hLt : L ≠ t := ro3.ne ht3
    have hLnt : Ln ≠ t := rg3.ne ht3
    show tSeq _ _ _ _ _
    refine ⟨_, rfl, t, _, dx3, _, v3, rfl, ht3, T.clGrowing, T.nGrowing_rule, rfl, _, rfl, t, _, dx3, _, .ref L, rfl, ht3, T.clGrowing, T.nGrowing_older, rfl, _, rfl, v3, L, r, m3, G3, k, rfl, ⟨ra3, rk3, hm32, by omega⟩, ro3.pl, ro3.ok, kb, (ro3.has k).mpr hmem, fun G4 dr => ?_⟩
    have ht4 : upd H3 L (.lst (ringL m3 G4)) t = some (.ins (cl .Growing) dx3 (grF v3 st gj.g (some L) Ln)) := by rw [upd_ne hLt.symm]; exact ht3
    have ra4 := ra3.updL (o := .lst (ringL m3 G4)) ro3.pl
    have rg4 := rg3.upd (o := .lst (ringL m3 G4)) hLL.symm
    have ro4 : RingAt (upd H3 L (.lst (ringL m3 G4))) L r m3 (gj.ko.erase k) G4 := ⟨upd_same, dr.ok, fun z => by rw [dr.has, ro3.has, nd3.1.mem_erase_iff]⟩
    have f4 := f3.trans (Fr.put (as := mutG t Ln (some L)) (mem_mut.2.2 L rfl) (.lst (ringL m3 G4)))
    generalize upd H3 L (.lst (ringL m3 G4)) = H4 at ht4 ra4 rg4 ro4 f4 ⊢
    refine ⟨_, rfl, t, _, dx3, _, v3, rfl, ht4, T.clGrowing, T.nGrowing_rule, rfl, _, rfl, t, _, dx3, _, .ref Ln, rfl, ht4, T.clGrowing, T.nGrowing_newer, rfl, _, rfl, v3, Ln, r, gj.n, F3, k, rfl, ⟨ra4, rk3, mid3.n2, by omega⟩, rg4.pl, rg4.ok, kb, (fun z => hnk ((rg4.has k).mp z)), by omega, fun F5 q5 po => ?_⟩
    have ht5 : upd H4 Ln (.lst (ringL gj.n F5)) t = some (.ins (cl .Growing) dx3 (grF v3 st gj.g (some L) Ln)) := by rw [upd_ne hLnt.symm]; exact ht4
    have ra5 := ra4.updL (o := .lst (ringL gj.n F5)) rg4.pl
    have ro5 := ro4.upd (o := .lst (ringL gj.n F5)) hLL
    have rg5 : RingAt (upd H4 Ln (.lst (ringL gj.n F5))) Ln r gj.n (gj.kn ++ [k]) F5 := ⟨upd_same, po.ok, fun z => by rw [po.has, rg4.has, List.mem_append, List.mem_singleton, Or.comm]⟩
    have f5 := f4.trans (Fr.put (as := mutG t Ln (some L)) mem_mut.2.1 (.lst (ringL gj.n F5)))
    generalize upd H4 Ln (.lst (ringL gj.n F5)) = H5 at ht5 ra5 ro5 rg5 f5 ⊢
    refine ⟨_, rfl, t, _, dx3, _, .int gj.g, rfl, ht5, T.clGrowing, T.nGrowing_moves_so_far, rfl, _, _, rfl, rfl, _, rfl, t, _, dx3, _, rfl, ht5, T.clGrowing, T.nGrowing_moves_so_far, (show 5 < 1000 by decide), ?_⟩
    refine ⟨_, rfl, ?_, f5.trans (Fr.put (as := mutG t Ln (some L)) mem_mut.1 _)⟩
    rw [est]
    exact ⟨⟨dx3, v3, upd_same, ra5.updT ht5⟩, rk3, st43, hn1, ⟨F5, by rw [← en]; exact rg5.upd hLnt⟩, fun L' e => by cases e; exact ⟨hLL, m3, G4, by rw [← en]; exact hm3, hm32, ro5.upd hLt⟩, (fun z => nomatch z)⟩
   ·rintro σ' H' ⟨x, rfl, ga', f⟩
    rw [List.length_map] at ga'
    exact hU _ _ ⟨x, rfl, ga', (Fr.same _ s2).trans f⟩
  rintro σ' H2 ⟨x, rfl, ga2, f2⟩
  subst a4 aD
  have hlm := hnin l hl0
  have hl2 := fr_keep f2 hlm hl1
  obtain ⟨dx2, v2, ht2, ra2⟩ := ga2.obj
  have fr2 := (Fr.same (mutG t Ln (some L)) s1).trans f2
  have hl := mvs_len g st
  obtain ⟨gl1, gl2⟩ := gone_len (s := g) (mvs_nd (st := st) nd.1) mvs_mem (Nat.le_refl _)
  refine ⟨_, rfl, l, _, rfl, .inl (SqL.of hl2), _, rfl, t, _, dx2, _, .int st, rfl, ht2, T.clGrowing, T.nGrowing_moves_each, rfl, _, _, rfl, rfl, _, rfl, ite2 (fun c => ?_) fun c => ?_⟩
  ·have c' := of_decide_eq_true c
   rw [List.length_map, srt_len] at c'
   have hk0 : (movS g st).ko = [] := List.eq_nil_of_length_eq_zero (by unfold movS; omega)
   refine ⟨_, rfl, t, _, dx2, _, rfl, ht2, T.clGrowing, T.nGrowing_older, (show 5 < 1000 by decide), ?_⟩
   obtain ⟨F2, rg2⟩ := ga2.new
   have hLnt : Ln ≠ t := rg2.ne ht2
   refine q none _ ⟨⟨dx2, v2, upd_same, ra2.updT ht2⟩, ga2.rk, ga2.st4, ga2.n1, ⟨F2, rg2.upd hLnt⟩, (fun L' e => nomatch e), fun _ => hk0⟩ (fun _ => rfl) fun Hb h => ?_
   have h2 := (fr2 Hb h).put (b := t) mem_mut.1 (.ins (cl .Growing) dx2 (putF "older" .non (grF v2 st (movS g st).g (some L) Ln)))
   exact ⟨h2.1, mut_sub (Ln := Ln) (oL := some L) (h2.2 t mem_mut.1) (h2.2 Ln mem_mut.2.1) (fun L' e => nomatch e)⟩
  ·refine q (some L) H2 ga2 (fun z => ?_) fr2
   have c' : ¬ g.ko.length ≤ st := fun w => c (decide_eq_true (by rw [List.length_map, srt_len]; omega))
   have z' : (goneS g (mvs g st) (mvs g st).length).ko.length = 0 := by
    have : (movS g st).ko.length = 0 := by rw [z]; rfl
    exact this
   omega
end S60
namespace S60
open PySem L2 SC PyProof.Rows S40 Ly Gw
theorem sc_Growing_row_with : FnScope ["self", "key", "places"] ["self", "key"] (defScope (inClass (top 45) 7)) := ⟨rfl, rfl, rfl, by decide +kernel, rfl, by decide +kernel, by decide +kernel⟩
theorem v_Growing_row_with : Vs ["self", "key", "places"] (defScope (inClass (top 45) 7)) := Vs.of (by decide +kernel)
theorem l_Growing_row_with : Ls ["self", "key", "places"] (defScope (inClass (top 45) 7)) := Ls.of sc_Growing_row_with.nd (by decide +kernel)
theorem g_Growing_row_with : Gs ["stands_in"] (defScope (inClass (top 45) 7)) := Gs.of (by decide +kernel)
theorem ok_Growing_row_with {P : Program} {w : World} {K : PySem.W.Frag} {mg : Str → Option Value} {base : Heap} {f : Addr} {fd : FuncData} {cl : CN → Addr} (F : Fun K "row_with" "Growing.row_with" (inClass (top 45) 7) f fd) (T : Tx K mg cl) (O_stands_in : Own P w K mg base true 6 "stands_in" ["rule", "places", "key"] (spStands)) :
  FnOk P w K mg base (CX1 P w) true 7 f fd ["self", "key"] (spRowWith (cl .Growing)) := by
 have S := sc_Growing_row_with
 have Vv := v_Growing_row_with
 have Lo := l_Growing_row_with
 have Gg := g_Growing_row_with
 refine F.ok S (fun vs H Q E h => ?_) (fun cdv A outer s H vs Q E hx hcx hh hr D h => ?_)
 ·obtain ⟨t, Ln, oL, r, st, s, k, rfl, _⟩ := h; rfl
 obtain ⟨t, Ln, oL, r, st, g, k, rfl, ga, n2, kb, q⟩ := h
 have hp := passesXE (E := E) D
 refine ⟨_, (pss_cons (ps_for hp (pi_tup (pe_tup (pa_cons (pe_fld (vn Vv 0) rfl) (pa_cons (pe_fld (vn Vv 0) rfl) pa_nil)))) (tgt_v (i := 2) Lo)
  (pss_one (ps_if (PW.pt (pw_and (pt_cmp (pc_notN (vn Vv 2))) (pw_and1 (pt_val (cOwn (i := 0) Gg O_stands_in (hr.mono (by decide)) passX (pa_cons (pe_fld (vn Vv 0) rfl) (pa_cons (vn Vv 2) (pa_cons (vn Vv 1) pa_nil)))))))) (pss_one (ps_ret (vn Vv 2))) pss_nil)))
  (pss_one (ps_ret pe_non))), ?_⟩
 obtain ⟨dx, v, ht, ra⟩ := ga.obj
 obtain ⟨F, rg⟩ := ga.new
 have ring : ∀ L m ks F1, RingAt H L r m ks F1 → 2 ≤ m → m ≤ 1024 → ∀ H', Same H H' → RlIn H' v r m ∧ H' L = some (.lst (ringL m F1)) := fun L m ks F1 hr h1 h2 H' s' => ⟨⟨ra.same s', ga.rk, h1, by omega⟩, s' _ _ hr.pl⟩
 have hn1 := ga.n1
 refine ⟨_, rfl, t, _, dx, _, .ref Ln, rfl, ht, T.clGrowing, T.nGrowing_newer, rfl, _, rfl, t, _, dx, _, orV oL, rfl, ht, T.clGrowing, T.nGrowing_older, rfl, nilI ⟨small (n := 2) (by decide), fun p hp => ?_⟩⟩
 have sp := Same.new hp (.tup [.ref Ln, orV oL])
 have hpp : upd H p (.tup [.ref Ln, orV oL]) p = some (.tup [.ref Ln, orV oL]) := upd_same
 generalize upd H p (.tup [.ref Ln, orV oL]) = H1 at sp hpp ⊢
 refine ⟨p, rfl, ⟨_, SqT.of hpp⟩, for_tup (xs := [.ref Ln, orV oL]) (fun i σ H2 => ∃ x, σ = [some (.ref t), some (.int k), x] ∧ H2 = H1 ∧ (0 < i → k ∉ g.kn) ∧ (1 < i → k ∉ g.ko)) ⟨none, rfl, rfl, (fun z => absurd z (Nat.lt_irrefl _)), (fun z => absurd z (by decide))⟩ (fun i σ H2 _ ⟨_, _, e, _⟩ => by rw [e]; exact SqT.of hpp) ?_ ?_⟩
 ·rintro i x σ H2 hx ⟨x0, rfl, rfl, h1, h2⟩
  have hi : i < 2 := (List.getElem?_eq_some_iff.mp hx).1
  have hi2 : i = 0 ∨ i = 1 := by omega
  rcases hi2 with rfl | rfl
  ·have hx := Option.some.inj hx
   subst hx
   obtain ⟨hin, hL⟩ := ring _ _ _ _ rg n2 hn1 _ sp
   exact ⟨_, rfl, _, rfl, iteT ⟨_, rfl, t, _, dx, _, v, rfl, sp _ _ ht, T.clGrowing, T.nGrowing_rule, rfl, _, rfl, _, rfl, v, Ln, r, g.n, F, k, rfl, hin, hL, rg.ok, kb, fun z => ⟨_, rfl, iteT ⟨_, rfl, (q _ sp).1 ((rg.has k).mp z)⟩⟩, fun z => ⟨_, rfl, iteF ⟨_, rfl, rfl, fun _ w => z ((rg.has k).mpr w), fun w => absurd w (by decide)⟩⟩⟩⟩
  ·have hx := Option.some.inj hx
   subst hx
   have hnk := h1 (by decide)
   cases oL with
   | none => exact ⟨_, rfl, _, rfl, iteF (iteF ⟨_, rfl, rfl, fun _ => hnk, fun _ => by rw [ga.non rfl]; exact List.not_mem_nil⟩)⟩
   | some L =>
    obtain ⟨_, m, F1, hm1, hm2, ro⟩ := ga.old L rfl
    obtain ⟨hin, hL⟩ := ring _ _ _ _ ro hm2 (by omega) _ sp
    exact ⟨_, rfl, _, rfl, iteT ⟨_, rfl, t, _, dx, _, v, rfl, sp _ _ ht, T.clGrowing, T.nGrowing_rule, rfl, _, rfl, _, rfl, v, L, r, m, F1, k, rfl, hin, hL, ro.ok, kb, fun z => ⟨_, rfl, iteT ⟨_, rfl, (q _ sp).2.1 hnk L rfl ((ro.has k).mp z)⟩⟩, fun z => ⟨_, rfl, iteF ⟨_, rfl, rfl, fun _ => hnk, fun _ w => z ((ro.has k).mpr w)⟩⟩⟩⟩
 ·rintro σ H2 ⟨x, rfl, rfl, h1, h2⟩
  exact (q _ sp).2.2 (h1 (by show 0 < 2; decide)) (h2 (by show 1 < 2; decide))
end S60
namespace S60
open PySem L2 SC PyProof.Rows S40 Ly Gw
theorem sc_Growing_make_room : FnScope ["self", "size"] ["self"] (defScope (inClass (top 45) 8)) := ⟨rfl, rfl, rfl, by decide +kernel, rfl, by decide +kernel, by decide +kernel⟩
theorem v_Growing_make_room : Vs ["self", "size"] (defScope (inClass (top 45) 8)) := Vs.of (by decide +kernel)
theorem l_Growing_make_room : Ls ["self", "size"] (defScope (inClass (top 45) 8)) := Ls.of sc_Growing_make_room.nd (by decide +kernel)
theorem g_Growing_make_room : Gs ["is_crowded_by_one_more", "len", "MOST_GROWN", "Full"] (defScope (inClass (top 45) 8)) := Gs.of (by decide +kernel)
theorem ok_Growing_make_room {P : Program} {w : World} {K : PySem.W.Frag} {mg : Str → Option Value} {base : Heap} {f : Addr} {fd : FuncData} {cl : CN → Addr} (F : Fun K "make_room" "Growing.make_room" (inClass (top 45) 8) f fd) (T : Tx K mg cl) (O_is_crowded_by_one_more : Own P w K mg base true 2 "is_crowded_by_one_more" ["places"] (spCrowd)) :
  FnOk P w K mg base (CX1 P w) true 3 f fd ["self"] (spMakeRoom (cl .Growing)) := by
 have S := sc_Growing_make_room
 have Vv := v_Growing_make_room
 have Lo := l_Growing_make_room
 have Gg := g_Growing_make_room
 refine F.ok S (fun vs H Q E h => ?_) (fun cdv A outer s H vs Q E hx hcx hh hr D h => ?_)
 ·obtain ⟨t, Ln, oL, r, st, s, rfl, _⟩ := h; rfl
 obtain ⟨t, Ln, oL, r, st, g, rfl, gf, ht40, q⟩ := h
 refine ⟨_, (pss_cons (ps_if (PW.pt (pw_or (pt_cmp (pc_notN (pe_fld (vn Vv 0) rfl))) (pw_or1 (pt_not (pt_val (cOwn (i := 0) Gg O_is_crowded_by_one_more (hr.mono (by decide)) passX (pa_cons (pe_fld (vn Vv 0) rfl) pa_nil))))))) (pss_one ps_retN) pss_nil)
  (pss_cons (set_v (i := 1) Lo (pe_op op_mulA pe_int (cB (i := 1) Gg (call_len_seq) T.nlen bt_len (pa_cons (pe_fld (vn Vv 0) rfl) pa_nil))))
  (pss_cons (ps_if (pt_cmpR op_gt (vn Vv 1) (nCon (i := 2) Gg T.cMOST_GROWN) (nomark _)) (pss_one (rse (i := 3) Gg T.mFull T.xFull (pa_cons pe_str pa_nil))) pss_nil)
  (pss_cons (ps_fld (vn Vv 0) (pe_fld (vn Vv 0) rfl) rfl)
  (pss_one (ps_fld (vn Vv 0) (pe_op op_rep (pe_lst (pa_cons pe_non pa_nil)) (vn Vv 1)) rfl)))))), ?_⟩
 obtain ⟨dx, v, ht, ra⟩ := gf.at_.obj
 obtain ⟨F, rg⟩ := gf.at_.new
 have hz : 100000 < sizeLine := by decide
 have hn1 := gf.at_.n1
 have hn2 := gf.fin.n2
 have hlen : (seqN F g.n).length = g.kn.length := (seq_perm rg.ok (List.nodup_append.mp gf.fin.nd).2.1 rg.has).length_eq
 have htot : g.ko.length + g.kn.length < 40 := ht40
 refine sq4 fun t1 t2 t3 t4 DD a1 a2 a3 a4 aD => ?_
 cases oL with
 | some L =>
  have hne : ¬ crowd g := fun c => nomatch gf.ol c.1
  subst a1
  refine ⟨_, rfl, t, _, dx, _, .ref L, rfl, ht, T.clGrowing, T.nGrowing_older, rfl, _, rfl, iteT (iteT ?_)⟩
  subst aD
  exact q _ _ H (by rw [room_not hne]; exact gf.at_) (Fr.same _ (Same.refl H))
 | none =>
  have hko := gf.at_.non rfl
  by_cases c : crowd g
  ·refine seq_cut (fun σ' H' => σ' = [some (.ref t), none] ∧ Same H H') (fun U hU => ?_) ?_
   ·subst a1
    refine ⟨_, rfl, t, _, dx, _, .non, rfl, ht, T.clGrowing, T.nGrowing_older, rfl, _, rfl, iteF ⟨_, rfl, t, _, dx, _, .ref Ln, rfl, ht, T.clGrowing, T.nGrowing_newer, rfl, Ln, g.n, F, rfl, rg.pl, by omega, by omega, fun H' s' => ⟨_, rfl, ?_⟩⟩⟩
    rw [decide_eq_true (by rw [hlen]; exact c.2)]
    exact iteF (hU _ _ ⟨rfl, s'⟩)
   rintro σ' H1 ⟨rfl, s1⟩
   have ht1 := s1 _ _ ht
   have rg1 := rg.same s1
   have hcn := c.2
   refine seq_cut (fun σ' H' => σ' = [some (.ref t), some (.int (2 * (g.n : Int)))] ∧ H' = H1) (fun U hU => ?_) ?_
   ·subst a2
    refine ⟨_, rfl, t, _, dx, _, .ref Ln, rfl, ht1, T.clGrowing, T.nGrowing_newer, rfl, Ln, _, rfl, .inl (SqL.of rg1.pl), _, _, rfl, rfl, mulC (by omega) (by rw [ringL_len]; omega), hU _ _ ⟨by rw [ringL_len]; rfl, rfl⟩⟩
   rintro σ' H2 ⟨rfl, rfl⟩
   refine seq_cut (fun σ' H' => σ' = [some (.ref t), some (.int (2 * (g.n : Int)))] ∧ H' = H2) (fun U hU => ?_) ?_
   ·subst a3
    exact ⟨_, rfl, _, _, rfl, rfl, _, rfl, ite2 (fun z => by have := of_decide_eq_true z; omega) fun _ => hU _ _ ⟨rfl, rfl⟩⟩
   rintro σ' H3 ⟨rfl, rfl⟩
   subst a4 aD
   refine ⟨_, rfl, t, _, dx, _, .ref Ln, rfl, ht1, T.clGrowing, T.nGrowing_newer, rfl, _, rfl, t, _, dx, _, rfl, ht1, T.clGrowing, T.nGrowing_older, (show 5 < 1000 by decide), ?_⟩
   have eA : upd H3 t (.ins (cl .Growing) dx (putF "older" (.ref Ln) (grF v st g.g none Ln))) = upd H3 t (.ins (cl .Growing) dx (grF v st g.g (some Ln) Ln)) := rfl
   rw [eA]
   have hLnt : Ln ≠ t := rg1.ne ht1
   have htA : upd H3 t (.ins (cl .Growing) dx (grF v st g.g (some Ln) Ln)) t = some (.ins (cl .Growing) dx (grF v st g.g (some Ln) Ln)) := upd_same
   have raA := (ra.same s1).updT (o := .ins (cl .Growing) dx (grF v st g.g (some Ln) Ln)) ht1
   have rgA := rg1.upd (o := .ins (cl .Growing) dx (grF v st g.g (some Ln) Ln)) hLnt
   have fA : ∀ Hb, Hid Hb H [t, Ln] → Hid Hb (upd H3 t (.ins (cl .Growing) dx (grF v st g.g (some Ln) Ln))) [t, Ln] := fun Hb h => (h.new s1).put (List.mem_cons_self ..) _
   generalize upd H3 t (.ins (cl .Growing) dx (grF v st g.g (some Ln) Ln)) = HA at htA raA rgA fA ⊢
   refine ⟨(show 1 ≤ sizeLine by decide), fun l0 hl0 => ⟨_, rfl, l0, 2 * (g.n : Int), _, rfl, rfl, upd_same, by omega, by omega, ?_, fun Lx hLx => ?_⟩⟩
   ·simp only [List.length_cons, List.length_nil]; omega
   rw [show (2 * (g.n : Int)).toNat = 2 * g.n by omega, rep_nil]
   have sB := Same.new hl0 (.lst [.non])
   have sC := sB.trans (Same.new hLx (.lst (ringL (2 * g.n) fun _ => none)))
   have hLxA := sB.free hLx
   have hLxC : upd (upd HA l0 (.lst [.non])) Lx (.lst (ringL (2 * g.n) fun _ => none)) Lx = some (.lst (ringL (2 * g.n) fun _ => none)) := upd_same
   generalize upd (upd HA l0 (.lst [.non])) Lx (.lst (ringL (2 * g.n) fun _ => none)) = HC at sC hLxC ⊢
   have hLxt : Lx ≠ t := fun z => by rw [z, htA] at hLxA; cases hLxA
   have hLxn : Ln ≠ Lx := fun z => by rw [← z, rgA.pl] at hLxA; cases hLxA
   refine ⟨_, rfl, t, _, dx, _, rfl, sC _ _ htA, T.clGrowing, T.nGrowing_newer, (show 5 < 1000 by decide), ?_⟩
   refine q Lx (some Ln) _ ?_ fun Hb h => ?_
   ·rw [room_yes c]
    exact ⟨⟨dx, v, upd_same, (raA.same sC).updT (sC _ _ htA)⟩, gf.at_.rk, gf.at_.st4, (by show 2 * g.n ≤ 1024; omega), ⟨fun _ => none, by rw [upd_ne hLxt]; exact hLxC, row_new r (by show 0 < 2 * g.n; omega), fun k => ⟨(fun ⟨_, _, h⟩ => nomatch h), (fun h => nomatch h)⟩⟩, fun L e => by cases e; exact ⟨hLxn, g.n, F, rfl, hn2, (rgA.same sC).upd hLnt⟩, (fun z => nomatch z)⟩
   ·have hA := fA Hb h
    have hD := (hA.new sC).put (b := t) (List.mem_cons_self ..) (.ins (cl .Growing) dx (putF "newer" (.ref Lx) (grF v st g.g (some Ln) Ln)))
    exact ⟨hD.1, mut_sub (Ln := Ln) (oL := none) (hD.2 t (List.mem_cons_self ..)) (hA.fresh hLxA) (fun L e => by cases e; exact hD.2 Ln (List.mem_cons_of_mem _ (List.mem_cons_self ..)))⟩
  ·subst a1
   refine ⟨_, rfl, t, _, dx, _, .non, rfl, ht, T.clGrowing, T.nGrowing_older, rfl, _, rfl, iteF ⟨_, rfl, t, _, dx, _, .ref Ln, rfl, ht, T.clGrowing, T.nGrowing_newer, rfl, Ln, g.n, F, rfl, rg.pl, by omega, by omega, fun H' s' => ⟨_, rfl, ?_⟩⟩⟩
   rw [decide_eq_false (by rw [hlen]; exact fun z => c ⟨hko, z⟩)]
   subst aD
   exact iteT (q _ _ H' (by rw [room_not c]; exact gf.at_.same s') (Fr.same _ s'))
end S60
namespace S60
open PySem L2 SC PyProof.Rows S40 Ly Gw
theorem sc_Growing_put : FnScope ["self", "key", "missing"] ["self", "key"] (defScope (inClass (top 45) 1)) := ⟨rfl, rfl, rfl, by decide +kernel, rfl, by decide +kernel, by decide +kernel⟩
theorem v_Growing_put : Vs ["self", "key", "missing"] (defScope (inClass (top 45) 1)) := Vs.of (by decide +kernel)
theorem l_Growing_put : Ls ["self", "key", "missing"] (defScope (inClass (top 45) 1)) := Ls.of sc_Growing_put.nd (by decide +kernel)
theorem g_Growing_put : Gs ["check_key", "settle"] (defScope (inClass (top 45) 1)) := Gs.of (by decide +kernel)
theorem ok_Growing_put {P : Program} {w : World} {K : PySem.W.Frag} {mg : Str → Option Value} {base : Heap} {f : Addr} {fd : FuncData} {cl : CN → Addr} (F : Fun K "put" "Growing.put" (inClass (top 45) 1) f fd) (T : Tx K mg cl) (O_check_key : Own P w K mg base true 2 "check_key" ["key"] (spCheckKey (cl .BadKey))) (O_settle : Own P w K mg base true 6 "settle" ["rule", "places", "key"] (spSettle)) (O_Growing_move_keys : OwnM P w K mg base true 7 (cl .Growing) "move_keys" ["self"] (spMoveKeys (cl .Growing))) (O_Growing_row_with : OwnM P w K mg base true 7 (cl .Growing) "row_with" ["self", "key"] (spRowWith (cl .Growing))) (O_Growing_make_room : OwnM P w K mg base true 3 (cl .Growing) "make_room" ["self"] (spMakeRoom (cl .Growing))) :
  FnOk P w K mg base (CX1 P w) true 8 f fd ["self", "key"] (spGDeed (cl .Growing) (cl .BadKey) Gw.putS ninB) := by
 have S := sc_Growing_put
 have Vv := v_Growing_put
 have Lo := l_Growing_put
 have Gg := g_Growing_put
 refine F.ok S (fun vs H Q E h => ?_) (fun cdv A outer s H vs Q E hx hcx hh hr D h => ?_)
 ·obtain ⟨t, Ln, oL, r, st, s, kv, T, rfl, _⟩ := h; rfl
 obtain ⟨t, Ln, oL, r, st, g, kv, Tk, rfl, gf, kk, q1, q2⟩ := h
 refine ⟨_, (pss_cons (ps_expr (cOwn (i := 0) Gg O_check_key (hr.mono (by decide)) passX (pa_cons (vn Vv 1) pa_nil)))
  (pss_cons (set_v (i := 2) Lo (pe_cmp (pc_isN (cMe O_Growing_row_with T.clGrowing (hr.mono (by decide)) passX (vn Vv 0) (pa_cons (vn Vv 1) pa_nil)))))
  (pss_cons (ps_if (pt_val (vn Vv 2)) (pss_cons (ps_expr (cMe0 O_Growing_make_room T.clGrowing (hr.mono (by decide)) passX (vn Vv 0)))
  (pss_one (ps_expr (cOwn (i := 1) Gg O_settle (hr.mono (by decide)) passX (pa_cons (pe_fld (vn Vv 0) rfl) (pa_cons (pe_fld (vn Vv 0) rfl) (pa_cons (vn Vv 1) pa_nil))))))) pss_nil)
  (pss_cons (ps_expr (cMe0 O_Growing_move_keys T.clGrowing (hr.mono (by decide)) passX (vn Vv 0)))
  (pss_one (ps_ret (vn Vv 2))))))), ?_⟩
 refine sq5 fun t1 t2 t3 t4 t5 DD a1 a2 a3 a4 a5 aD => ?_
 subst a1
 refine ⟨_, rfl, kv, Tk, rfl, kk, ite2 (fun c => ?_) fun c => by subst aD; exact q1 (Bool.eq_false_iff.mpr c)⟩
 obtain ⟨k, rfl, k1, k2⟩ := ofWhole c
 obtain ⟨h40, q2⟩ := q2 k rfl ⟨k1, k2⟩
 obtain ⟨dx, v, ht, ra⟩ := gf.at_.obj
 have nd := List.nodup_append.mp gf.fin.nd
 show tSeq t2 _ _ _ _
 refine seq_cut (fun σ' H' => σ' = [some (.ref t), some (.int k), some (.bl (ninB g k))] ∧ Same H H') (fun U hU => ?_) ?_
 ·subst a2
  refine ⟨_, rfl, t, dx, _, rfl, ht, rfl, _, rfl, t, Ln, oL, r, st, g, k, rfl, gf.at_, gf.fin.n2, ⟨k1, k2⟩, fun H1 s1 => ⟨fun z => ?_, fun z L e z2 => ?_, fun z z2 => ?_⟩⟩
  ·exact hU _ _ ⟨by unfold ninB; rw [decide_eq_true (show isIn g k from .inr z)]; rfl, s1⟩
  ·exact hU _ _ ⟨by unfold ninB; rw [decide_eq_true (show isIn g k from .inl z2)]; rfl, s1⟩
  ·exact hU _ _ ⟨by unfold ninB; rw [decide_eq_false (show ¬ isIn g k from fun w => w.elim z2 z)]; rfl, s1⟩
 rintro σ' H1 ⟨rfl, s1⟩
 refine seq_cut (fun σ' H' => ∃ Ln2 oL2, σ' = [some (.ref t), some (.int k), some (.bl (ninB g k))] ∧ GrAt (cl .Growing) H' t Ln2 oL2 r st (putS g k) ∧ Fr H H' (mutG t Ln oL) (mutG t Ln2 oL2)) (fun U hU => ?_) ?_
 ·subst a3
  by_cases hin : isIn g k
  ·have e : putS g k = g := if_pos hin
   have e2 : ninB g k = false := by unfold ninB; rw [decide_eq_true hin]; rfl
   rw [e2] at hU ⊢
   exact ⟨_, rfl, _, rfl, iteF (hU _ _ ⟨Ln, oL, rfl, by rw [e]; exact gf.at_.same s1, Fr.same _ s1⟩)⟩
  ·have e2 : ninB g k = true := by unfold ninB; rw [decide_eq_false hin]; rfl
   rw [e2] at hU ⊢
   refine ⟨_, rfl, _, rfl, iteT ?_⟩
   refine ⟨_, rfl, t, dx, _, rfl, s1 _ _ ht, rfl, t, Ln, oL, r, st, g, rfl, gf.same s1, h40 hin, fun Ln2 oL2 H2 ga2 f2 => ?_⟩
   obtain ⟨⟨dx2, v2, ht2, ra2⟩, rk2, st42, n12, ⟨F2, rg2⟩, old2, non2⟩ := id ga2
   have mp := (put_all gf.fin ⟨k1, k2⟩).1
   have ep : putS g k = ⟨(room g).n, (room g).ko, (room g).kn ++ [k], g.g⟩ := if_neg hin
   have eg : (room g).g = g.g := by unfold room; split <;> rfl
   rw [ep] at mp
   have hlo := mp.lo
   simp only [List.length_append, List.length_singleton] at hlo
   have nd2 := List.nodup_append.mp mp.nd
   have nd3 := List.nodup_append.mp nd2.2.1
   have hnk : k ∉ (room g).kn := fun z => nd3.2.2 k z k (List.mem_singleton.mpr rfl) rfl
   have hfr := free_of rg2.ok nd3.1 rg2.has
   have hn2 : 2 ≤ (room g).n := mp.n2
   have hLnt := rg2.ne ht2
   refine ⟨_, rfl, t, _, dx2, _, v2, rfl, ht2, T.clGrowing, T.nGrowing_rule, rfl, _, rfl, t, _, dx2, _, .ref Ln2, rfl, ht2, T.clGrowing, T.nGrowing_newer, rfl, _, rfl, v2, Ln2, r, (room g).n, F2, k, rfl, ⟨ra2, rk2, hn2, by omega⟩, rg2.pl, rg2.ok, ⟨k1, k2⟩, (fun z => hnk ((rg2.has k).mp z)), by omega, fun F5 q5 po => ?_⟩
   refine hU _ _ ⟨Ln2, oL2, rfl, ?_, (Fr.same _ s1).trans (f2.trans (Fr.put mem_mut.2.1 _))⟩
   rw [ep]
   refine ⟨⟨dx2, v2, by rw [upd_ne hLnt.symm, ← eg]; exact ht2, ra2.updL rg2.pl⟩, rk2, st42, n12, ⟨F5, upd_same, po.ok, fun z => by rw [po.has, rg2.has, List.mem_append, List.mem_singleton, Or.comm]⟩, fun L e => ?_, non2⟩
   obtain ⟨a, m, F, b, c, d⟩ := old2 L e
   exact ⟨a, m, F, b, c, d.upd a⟩
 rintro σ' H2 ⟨Ln2, oL2, rfl, ga2, f2⟩
 obtain ⟨dx2, v2, ht2, ra2⟩ := ga2.obj
 have mp := (put_all gf.fin ⟨k1, k2⟩).1
 have hst := ga2.st4.1
 subst a4 a5 aD
 refine ⟨_, rfl, t, dx2, _, rfl, ht2, rfl, t, Ln2, oL2, r, st, putS g k, rfl, ga2, mp, tot_put gf.tot h40, fun oL3 H3 ga3 h3 f3 => ?_⟩
 exact ⟨_, rfl, q2 Ln2 oL3 H3 (gfin ga3 (put_fin gf.fin ⟨k1, k2⟩ hst) h3 (List.nodup_append.mp mp.nd).1 (tot_put gf.tot h40)) (f2.trans f3)⟩
end S60
namespace S60
open PySem L2 SC PyProof.Rows S40 Ly Gw
theorem sc_Growing_drop : FnScope ["self", "key", "places"] ["self", "key"] (defScope (inClass (top 45) 2)) := ⟨rfl, rfl, rfl, by decide +kernel, rfl, by decide +kernel, by decide +kernel⟩
theorem v_Growing_drop : Vs ["self", "key", "places"] (defScope (inClass (top 45) 2)) := Vs.of (by decide +kernel)
theorem l_Growing_drop : Ls ["self", "key", "places"] (defScope (inClass (top 45) 2)) := Ls.of sc_Growing_drop.nd (by decide +kernel)
theorem g_Growing_drop : Gs ["check_key", "take_out"] (defScope (inClass (top 45) 2)) := Gs.of (by decide +kernel)
theorem ok_Growing_drop {P : Program} {w : World} {K : PySem.W.Frag} {mg : Str → Option Value} {base : Heap} {f : Addr} {fd : FuncData} {cl : CN → Addr} (F : Fun K "drop" "Growing.drop" (inClass (top 45) 2) f fd) (T : Tx K mg cl) (O_check_key : Own P w K mg base true 2 "check_key" ["key"] (spCheckKey (cl .BadKey))) (O_take_out : Own P w K mg base true 6 "take_out" ["rule", "places", "key"] (spTakeOut)) (O_Growing_move_keys : OwnM P w K mg base true 7 (cl .Growing) "move_keys" ["self"] (spMoveKeys (cl .Growing))) (O_Growing_row_with : OwnM P w K mg base true 7 (cl .Growing) "row_with" ["self", "key"] (spRowWith (cl .Growing))) :
  FnOk P w K mg base (CX1 P w) true 8 f fd ["self", "key"] (spGDeed (cl .Growing) (cl .BadKey) Gw.dropS inB) := by
 have S := sc_Growing_drop
 have Vv := v_Growing_drop
 have Lo := l_Growing_drop
 have Gg := g_Growing_drop
 refine F.ok S (fun vs H Q E h => ?_) (fun cdv A outer s H vs Q E hx hcx hh hr D h => ?_)
 ·obtain ⟨t, Ln, oL, r, st, s, kv, T, rfl, _⟩ := h; rfl
 obtain ⟨t, Ln, oL, r, st, g, kv, Tk, rfl, gf, kk, q1, q2⟩ := h
 refine ⟨_, (pss_cons (ps_expr (cOwn (i := 0) Gg O_check_key (hr.mono (by decide)) passX (pa_cons (vn Vv 1) pa_nil)))
  (pss_cons (set_v (i := 2) Lo (cMe O_Growing_row_with T.clGrowing (hr.mono (by decide)) passX (vn Vv 0) (pa_cons (vn Vv 1) pa_nil)))
  (pss_cons (ps_if (pt_cmp (pc_notN (vn Vv 2))) (pss_one (ps_expr (cOwn (i := 1) Gg O_take_out (hr.mono (by decide)) passX (pa_cons (pe_fld (vn Vv 0) rfl) (pa_cons (vn Vv 2) (pa_cons (vn Vv 1) pa_nil)))))) pss_nil)
  (pss_cons (ps_expr (cMe0 O_Growing_move_keys T.clGrowing (hr.mono (by decide)) passX (vn Vv 0)))
  (pss_one (ps_ret (pe_cmp (pc_notN (vn Vv 2))))))))), ?_⟩
 refine sq5 fun t1 t2 t3 t4 t5 DD a1 a2 a3 a4 a5 aD => ?_
 subst a1
 refine ⟨_, rfl, kv, Tk, rfl, kk, ite2 (fun c => ?_) fun c => by subst aD; exact q1 (Bool.eq_false_iff.mpr c)⟩
 obtain ⟨k, rfl, k1, k2⟩ := ofWhole c
 obtain ⟨h40, q2⟩ := q2 k rfl ⟨k1, k2⟩
 obtain ⟨dx, v, ht, ra⟩ := gf.at_.obj
 have nd := List.nodup_append.mp gf.fin.nd
 obtain ⟨F, rg⟩ := gf.at_.new
 show tSeq t2 _ _ _ _
 refine seq_cut (fun σ' H' => ∃ pv, σ' = [some (.ref t), some (.int k), some pv] ∧ Same H H' ∧ ((pv = .ref Ln ∧ k ∈ g.kn) ∨ (k ∉ g.kn ∧ k ∈ g.ko ∧ ∃ L, pv = .ref L ∧ oL = some L) ∨ (pv = .non ∧ k ∉ g.kn ∧ k ∉ g.ko))) (fun U hU => ?_) ?_
 ·subst a2
  exact ⟨_, rfl, t, dx, _, rfl, ht, rfl, _, rfl, t, Ln, oL, r, st, g, k, rfl, gf.at_, gf.fin.n2, ⟨k1, k2⟩, fun H1 s1 => ⟨fun z => hU _ _ ⟨_, rfl, s1, .inl ⟨rfl, z⟩⟩, fun z L e z2 => hU _ _ ⟨_, rfl, s1, .inr (.inl ⟨z, z2, L, rfl, e⟩)⟩, fun z z2 => hU _ _ ⟨_, rfl, s1, .inr (.inr ⟨rfl, z, z2⟩)⟩⟩⟩
 rintro σ' H1 ⟨pv, rfl, s1, hpv⟩
 have ga1 := gf.at_.same s1
 have rg1 := rg.same s1
 have ht1 := s1 _ _ ht
 have ra1 := ra.same s1
 have hn1 := gf.at_.n1
 refine seq_cut (fun σ' H' => σ' = [some (.ref t), some (.int k), some pv] ∧ GrAt (cl .Growing) H' t Ln oL r st (dropS g k) ∧ Fr H H' (mutG t Ln oL) (mutG t Ln oL)) (fun U hU => ?_) ?_
 ·subst a3
  rcases hpv with ⟨rfl, hk⟩ | ⟨hkn, hk, L, rfl, hoL⟩ | ⟨rfl, hkn, hko⟩
  ·have hko : k ∉ g.ko := fun z => nd.2.2 k z k hk rfl
   have e : dropS g k = ⟨g.n, g.ko, g.kn.erase k, g.g⟩ := if_neg hko
   refine ⟨_, rfl, _, rfl, iteT ⟨_, rfl, t, _, dx, _, v, rfl, ht1, T.clGrowing, T.nGrowing_rule, rfl, _, rfl, _, rfl, v, Ln, r, g.n, F, k, rfl, ⟨ra1, ga1.rk, gf.fin.n2, by omega⟩, rg1.pl, rg1.ok, ⟨k1, k2⟩, (rg1.has k).mpr hk, fun F5 dr => ?_⟩⟩
   refine hU _ _ ⟨rfl, ?_, (Fr.same _ s1).trans (Fr.put mem_mut.2.1 _)⟩
   rw [e]
   refine ⟨⟨dx, v, by rw [upd_ne (rg1.ne ht1).symm]; exact ht1, ra1.updL rg1.pl⟩, ga1.rk, ga1.st4, ga1.n1, ⟨F5, upd_same, dr.ok, fun z => by rw [dr.has, rg1.has, nd.2.1.mem_erase_iff]⟩, fun L e => ?_, ga1.non⟩
   obtain ⟨a, m, F, b, c, d⟩ := ga1.old L e
   exact ⟨a, m, F, b, c, d.upd a⟩
  ·have e : dropS g k = ⟨g.n, g.ko.erase k, g.kn, g.g⟩ := if_pos hk
   obtain ⟨hLL, m, F1, hm1, hm2, ro⟩ := ga1.old L hoL
   refine ⟨_, rfl, _, rfl, iteT ⟨_, rfl, t, _, dx, _, v, rfl, ht1, T.clGrowing, T.nGrowing_rule, rfl, _, rfl, _, rfl, v, L, r, m, F1, k, rfl, ⟨ra1, ga1.rk, hm2, by omega⟩, ro.pl, ro.ok, ⟨k1, k2⟩, (ro.has k).mpr hk, fun F5 dr => ?_⟩⟩
   refine hU _ _ ⟨rfl, ?_, (Fr.same _ s1).trans (Fr.put (mem_mut.2.2 L hoL) _)⟩
   rw [e]
   exact ⟨⟨dx, v, by rw [upd_ne (ro.ne ht1).symm]; exact ht1, ra1.updL ro.pl⟩, ga1.rk, ga1.st4, ga1.n1, ⟨F, rg1.upd hLL.symm⟩, fun L' e' => by rw [hoL] at e'; cases e'; exact ⟨hLL, m, F5, hm1, hm2, upd_same, dr.ok, fun z => by rw [dr.has, ro.has, nd.1.mem_erase_iff]⟩, fun z => by rw [hoL] at z; cases z⟩
  ·exact ⟨_, rfl, _, rfl, iteF (hU _ _ ⟨rfl, by rw [drop_no hko hkn]; exact ga1, Fr.same _ s1⟩)⟩
 rintro σ' H2 ⟨rfl, ga2, f2⟩
 obtain ⟨dx2, v2, ht2, ra2⟩ := ga2.obj
 have md := (drop_mid (k := k) gf.fin).1
 have htd : (dropS g k).tot ≤ 40 := Nat.le_trans tot_drop gf.tot
 subst a4 a5 aD
 refine ⟨_, rfl, t, dx2, _, rfl, ht2, rfl, t, Ln, oL, r, st, dropS g k, rfl, ga2, md, htd, fun oL3 H3 ga3 h3 f3 => ?_⟩
 have q3 := q2 Ln oL3 H3 (gfin ga3 (drop_fin gf.fin gf.at_.st4.1) h3 (List.nodup_append.mp md.nd).1 htd) (f2.trans f3)
 unfold inB at q3
 rcases hpv with ⟨rfl, hk⟩ | ⟨hkn, hk, L, rfl, hoL⟩ | ⟨rfl, hkn, hko⟩
 ·rw [decide_eq_true (show isIn g k from .inr hk)] at q3
  exact ⟨_, rfl, q3⟩
 ·rw [decide_eq_true (show isIn g k from .inl hk)] at q3
  exact ⟨_, rfl, q3⟩
 ·rw [decide_eq_false (show ¬ isIn g k from fun w => w.elim hko hkn)] at q3
  exact ⟨_, rfl, q3⟩
end S60
namespace S60
open PySem L2 SC PyProof.Rows S40 Ly Gw
theorem sc_Growing_has : FnScope ["self", "key", "there"] ["self", "key"] (defScope (inClass (top 45) 3)) := ⟨rfl, rfl, rfl, by decide +kernel, rfl, by decide +kernel, by decide +kernel⟩
theorem v_Growing_has : Vs ["self", "key", "there"] (defScope (inClass (top 45) 3)) := Vs.of (by decide +kernel)
theorem l_Growing_has : Ls ["self", "key", "there"] (defScope (inClass (top 45) 3)) := Ls.of sc_Growing_has.nd (by decide +kernel)
theorem g_Growing_has : Gs ["check_key"] (defScope (inClass (top 45) 3)) := Gs.of (by decide +kernel)
theorem ok_Growing_has {P : Program} {w : World} {K : PySem.W.Frag} {mg : Str → Option Value} {base : Heap} {f : Addr} {fd : FuncData} {cl : CN → Addr} (F : Fun K "has" "Growing.has" (inClass (top 45) 3) f fd) (T : Tx K mg cl) (O_check_key : Own P w K mg base true 2 "check_key" ["key"] (spCheckKey (cl .BadKey))) (O_Growing_move_keys : OwnM P w K mg base true 7 (cl .Growing) "move_keys" ["self"] (spMoveKeys (cl .Growing))) (O_Growing_row_with : OwnM P w K mg base true 7 (cl .Growing) "row_with" ["self", "key"] (spRowWith (cl .Growing))) :
  FnOk P w K mg base (CX1 P w) true 8 f fd ["self", "key"] (spGDeed (cl .Growing) (cl .BadKey) hasS inB) := by
 have S := sc_Growing_has
 have Vv := v_Growing_has
 have Lo := l_Growing_has
 have Gg := g_Growing_has
 refine F.ok S (fun vs H Q E h => ?_) (fun cdv A outer s H vs Q E hx hcx hh hr D h => ?_)
 ·obtain ⟨t, Ln, oL, r, st, s, kv, T, rfl, _⟩ := h; rfl
 obtain ⟨t, Ln, oL, r, st, g, kv, Tk, rfl, gf, kk, q1, q2⟩ := h
 refine ⟨_, (pss_cons (ps_expr (cOwn (i := 0) Gg O_check_key (hr.mono (by decide)) passX (pa_cons (vn Vv 1) pa_nil)))
  (pss_cons (set_v (i := 2) Lo (pe_cmp (pc_notN (cMe O_Growing_row_with T.clGrowing (hr.mono (by decide)) passX (vn Vv 0) (pa_cons (vn Vv 1) pa_nil)))))
  (pss_cons (ps_expr (cMe0 O_Growing_move_keys T.clGrowing (hr.mono (by decide)) passX (vn Vv 0)))
  (pss_one (ps_ret (vn Vv 2)))))), ?_⟩
 refine sq4 fun t1 t2 t3 t4 DD a1 a2 a3 a4 aD => ?_
 subst a1
 refine ⟨_, rfl, kv, Tk, rfl, kk, ite2 (fun c => ?_) fun c => by subst aD; exact q1 (Bool.eq_false_iff.mpr c)⟩
 obtain ⟨k, rfl, k1, k2⟩ := ofWhole c
 obtain ⟨h40, q2⟩ := q2 k rfl ⟨k1, k2⟩
 obtain ⟨dx, v, ht, ra⟩ := gf.at_.obj
 have nd := List.nodup_append.mp gf.fin.nd
 show tSeq t2 _ _ _ _
 refine seq_cut (fun σ' H' => σ' = [some (.ref t), some (.int k), some (.bl (inB g k))] ∧ Same H H') (fun U hU => ?_) ?_
 ·subst a2
  refine ⟨_, rfl, t, dx, _, rfl, ht, rfl, _, rfl, t, Ln, oL, r, st, g, k, rfl, gf.at_, gf.fin.n2, ⟨k1, k2⟩, fun H1 s1 => ⟨fun z => ?_, fun z L e z2 => ?_, fun z z2 => ?_⟩⟩
  ·exact hU _ _ ⟨by unfold inB; rw [decide_eq_true (show isIn g k from .inr z)]; rfl, s1⟩
  ·exact hU _ _ ⟨by unfold inB; rw [decide_eq_true (show isIn g k from .inl z2)]; rfl, s1⟩
  ·exact hU _ _ ⟨by unfold inB; rw [decide_eq_false (show ¬ isIn g k from fun w => w.elim z2 z)]; rfl, s1⟩
 rintro σ' H1 ⟨rfl, s1⟩
 subst a3 a4 aD
 refine ⟨_, rfl, t, dx, _, rfl, s1 _ _ ht, rfl, t, Ln, oL, r, st, g, rfl, gf.at_.same s1, gf.fin.toMid, gf.tot, fun oL3 H3 ga3 h3 f3 => ?_⟩
 exact ⟨_, rfl, q2 Ln oL3 H3 (gfin ga3 (has_fin gf.fin gf.at_.st4.1) h3 nd.1 gf.tot) ((Fr.same _ s1).trans f3)⟩
end S60
namespace S60
open PySem L2 SC PyProof.Rows S40 Ly Gw
theorem sc_Growing_all_told : FnScope ["self", "told"] ["self"] (defScope (inClass (top 45) 4)) := ⟨rfl, rfl, rfl, by decide +kernel, rfl, by decide +kernel, by decide +kernel⟩
theorem v_Growing_all_told : Vs ["self", "told"] (defScope (inClass (top 45) 4)) := Vs.of (by decide +kernel)
theorem l_Growing_all_told : Ls ["self", "told"] (defScope (inClass (top 45) 4)) := Ls.of sc_Growing_all_told.nd (by decide +kernel)
theorem g_Growing_all_told : Gs ["keys_in", "sorted"] (defScope (inClass (top 45) 4)) := Gs.of (by decide +kernel)
theorem ok_Growing_all_told {P : Program} {w : World} {K : PySem.W.Frag} {mg : Str → Option Value} {base : Heap} {f : Addr} {fd : FuncData} {cl : CN → Addr} (F : Fun K "all_told" "Growing.all_told" (inClass (top 45) 4) f fd) (T : Tx K mg cl) (O_keys_in : Own P w K mg base true 1 "keys_in" ["places"] (spKeysIn)) :
  FnOk P w K mg base (CX1 P w) true 2 f fd ["self"] (spGAll (cl .Growing)) := by
 have S := sc_Growing_all_told
 have Vv := v_Growing_all_told
 have Lo := l_Growing_all_told
 have Gg := g_Growing_all_told
 refine F.ok S (fun vs H Q E h => ?_) (fun cdv A outer s H vs Q E hx hcx hh hr D h => ?_)
 ·obtain ⟨t, Ln, oL, r, st, s, rfl, _⟩ := h; rfl
 obtain ⟨t, Ln, oL, r, st, g, rfl, gf, q⟩ := h
 refine ⟨_, (pss_cons (set_v (i := 1) Lo (cOwn (i := 0) Gg O_keys_in (hr.mono (by decide)) passX (pa_cons (pe_fld (vn Vv 0) rfl) pa_nil)))
  (pss_cons (ps_if (pt_cmp (pc_notN (pe_fld (vn Vv 0) rfl))) (pss_one (ps_expr (pe_bm PySem.F.plainAttrs_list PySem.F.slot_list_extend PySem.F.type_list_extend mt_extend (vn Vv 1) (pa_cons (cOwn (i := 0) Gg O_keys_in (hr.mono (by decide)) passX (pa_cons (pe_fld (vn Vv 0) rfl) pa_nil)) pa_nil)))) pss_nil)
  (pss_one (ps_ret (cB (i := 1) Gg (call_sorted) T.nsorted bt_sorted (pa_cons (vn Vv 1) pa_nil)))))), ?_⟩
 have hz : 100000 < sizeLine := by decide
 obtain ⟨dx, v, ht, ra⟩ := gf.at_.obj
 obtain ⟨F, rg⟩ := gf.at_.new
 have nd := List.nodup_append.mp gf.fin.nd
 have hn1 := gf.at_.n1
 have htot : g.ko.length + g.kn.length ≤ 40 := gf.tot
 have pn := seq_perm rg.ok nd.2.1 rg.has
 have hln := pn.length_eq
 refine ⟨_, rfl, t, _, dx, _, .ref Ln, rfl, ht, T.clGrowing, T.nGrowing_newer, rfl, Ln, g.n, F, rfl, rg.pl, by omega, by omega, fun l ks H1 s1 hl0 hl pm pw => ?_⟩
 have ks1 := pm.trans pn
 have ht1 := s1 _ _ ht
 refine ⟨_, rfl, t, _, dx, _, orV oL, rfl, ht1, T.clGrowing, T.nGrowing_older, rfl, _, rfl, ?_⟩
 have fin : ∀ (H2 : Hp) (l2 : List Int), Same H H2 → H2 l = some (.lst (l2.map V.int)) → l2.Perm (g.ko ++ g.kn) → ∀ l3 (ns' : List Int), H2 l3 = none → ns'.Perm l2 → ns'.Pairwise (· ≤ ·) → Q (.ref l3) (upd H2 l3 (.lst (ns'.map V.int))) := fun H2 l2 s2 h2 p2 l3 ns' h3 p3 w3 => by
  refine q l3 _ (s2.trans (Same.new h3 _)) ?_
  rw [upd_same, srt_of (p3.trans p2) w3]
 cases oL with
 | none =>
  have hko := gf.at_.non rfl
  refine iteF ⟨_, rfl, l, ks, rfl, SqL.of hl, by rw [ks1.length_eq]; omega, fin H1 ks s1 hl (by rw [hko]; exact ks1)⟩
 | some L =>
  obtain ⟨hLL, m, F1, hm1, hm2, ro⟩ := gf.at_.old L rfl
  have po := seq_perm ro.ok nd.1 ro.has
  have hlo := po.length_eq
  refine iteT ?_
  refine ⟨_, rfl, .inl ⟨rfl, _, SqL.of hl⟩, _, rfl, t, _, dx, _, .ref L, rfl, ht1, T.clGrowing, T.nGrowing_older, rfl, L, m, F1, rfl, s1 _ _ ro.pl, by omega, by omega, fun l2 ks2 H2 s2 hl20 hl2 pm2 pw2 => ?_⟩
  have ks22 := pm2.trans po
  refine ⟨l, l2, _, _, rfl, rfl, s2 _ _ hl, hl2, by rw [List.length_map, List.length_map, ks1.length_eq, ks22.length_eq]; omega, ?_⟩
  rw [← List.map_append]
  refine ⟨_, rfl, l, ks ++ ks2, rfl, SqL.of upd_same, by rw [List.length_append, ks1.length_eq, ks22.length_eq]; omega, fin _ (ks ++ ks2) ((s1.trans s2).upd hl0 (s2 _ _ hl) _) upd_same ((List.perm_append_comm).trans (ks22.append ks1))⟩
end S60
namespace S60
open PySem L2 SC PyProof.Rows S40 Ly Gw
theorem sc_Growing_lays : FnScope ["self"] ["self"] (defScope (inClass (top 45) 5)) := ⟨rfl, rfl, rfl, by decide +kernel, rfl, by decide +kernel, by decide +kernel⟩
theorem v_Growing_lays : Vs ["self"] (defScope (inClass (top 45) 5)) := Vs.of (by decide +kernel)
theorem l_Growing_lays : Ls ["self"] (defScope (inClass (top 45) 5)) := Ls.of sc_Growing_lays.nd (by decide +kernel)
theorem g_Growing_lays : Gs ["list"] (defScope (inClass (top 45) 5)) := Gs.of (by decide +kernel)
theorem ok_Growing_lays {P : Program} {w : World} {K : PySem.W.Frag} {mg : Str → Option Value} {base : Heap} {f : Addr} {fd : FuncData} {cl : CN → Addr} (F : Fun K "lays" "Growing.lays" (inClass (top 45) 5) f fd) (T : Tx K mg cl) :
  FnOk P w K mg base (CX1 P w) true 1 f fd ["self"] (spGLays (cl .Growing)) := by
 have S := sc_Growing_lays
 have Vv := v_Growing_lays
 have Lo := l_Growing_lays
 have Gg := g_Growing_lays
 refine F.ok S (fun vs H Q E h => ?_) (fun cdv A outer s H vs Q E hx hcx hh hr D h => ?_)
 ·obtain ⟨t, Ln, oL, r, st, s, rfl, _⟩ := h; rfl
 obtain ⟨t, Ln, oL, r, st, g, rfl, gf, q⟩ := h
 refine ⟨_, (pss_cons (ps_if (pt_cmp (pc_isN (pe_fld (vn Vv 0) rfl))) (pss_one (ps_ret (pe_tup (pa_cons pe_non (pa_cons (cTy (i := 0) Gg call_list_of T.nlist bt_list (pa_cons (pe_fld (vn Vv 0) rfl) pa_nil)) pa_nil))))) pss_nil)
  (pss_one (ps_ret (pe_tup (pa_cons (cTy (i := 0) Gg call_list_of T.nlist bt_list (pa_cons (pe_fld (vn Vv 0) rfl) pa_nil)) (pa_cons (cTy (i := 0) Gg call_list_of T.nlist bt_list (pa_cons (pe_fld (vn Vv 0) rfl) pa_nil)) pa_nil)))))), ?_⟩
 obtain ⟨dx, v, ht, ra⟩ := gf.at_.obj
 obtain ⟨F, rg⟩ := gf.at_.new
 have hn1 := gf.at_.n1
 refine ⟨_, rfl, t, _, dx, _, orV oL, rfl, ht, T.clGrowing, T.nGrowing_older, rfl, _, rfl, ?_⟩
 cases oL with
 | none =>
  have hko := gf.at_.non rfl
  refine iteT ⟨_, rfl, t, _, dx, _, .ref Ln, rfl, ht, T.clGrowing, T.nGrowing_newer, rfl, Ln, _, rfl, .inl (SqL.of rg.pl), fun l hl => nilI ⟨small (n := 2) (by decide), fun p hp => ?_⟩⟩
  exact q p _ ((Same.new hl _).trans (Same.new hp _)) ⟨⟨.non, l, F, upd_same, ⟨Same.new hp _ _ _ upd_same, rg.ok, rg.has⟩, fun _ => rfl, fun z => absurd hko z⟩⟩
 | some L =>
  obtain ⟨hLL, m, F1, hm1, hm2, ro⟩ := gf.at_.old L rfl
  have hko : g.ko ≠ [] := fun z => nomatch gf.ol z
  refine iteF ⟨_, rfl, t, _, dx, _, .ref L, rfl, ht, T.clGrowing, T.nGrowing_older, rfl, L, _, rfl, .inl (SqL.of ro.pl), fun l1 hl1 => ?_⟩
  have s1 := Same.new hl1 (.lst (ringL m F1))
  refine ⟨_, rfl, t, _, dx, _, .ref Ln, rfl, s1 _ _ ht, T.clGrowing, T.nGrowing_newer, rfl, Ln, _, rfl, .inl (SqL.of (s1 _ _ rg.pl)), fun l hl => nilI ⟨small (n := 2) (by decide), fun p hp => ?_⟩⟩
  have s2 := Same.new hl (.lst (ringL g.n F))
  exact q p _ (s1.trans (s2.trans (Same.new hp _))) ⟨⟨.ref l1, l, F, upd_same, ⟨Same.new hp _ _ _ upd_same, rg.ok, rg.has⟩, fun z => absurd z hko, fun _ => ⟨l1, m, F1, rfl, hm1, hm2, Same.new hp _ _ _ (s2 _ _ upd_same), ro.ok, ro.has⟩⟩⟩
end S60
namespace S60
open PySem L2 SC PyProof.Rows S40 Ly Gw
theorem sc_Growing_moved : FnScope ["self"] ["self"] (defScope (inClass (top 45) 6)) := ⟨rfl, rfl, rfl, by decide +kernel, rfl, by decide +kernel, by decide +kernel⟩
theorem v_Growing_moved : Vs ["self"] (defScope (inClass (top 45) 6)) := Vs.of (by decide +kernel)
theorem l_Growing_moved : Ls ["self"] (defScope (inClass (top 45) 6)) := Ls.of sc_Growing_moved.nd (by decide +kernel)
theorem g_Growing_moved : Gs [] (defScope (inClass (top 45) 6)) := Gs.of (by decide +kernel)
theorem ok_Growing_moved {P : Program} {w : World} {K : PySem.W.Frag} {mg : Str → Option Value} {base : Heap} {f : Addr} {fd : FuncData} {cl : CN → Addr} (F : Fun K "moved" "Growing.moved" (inClass (top 45) 6) f fd) (T : Tx K mg cl) :
  FnOk P w K mg base (CX1 P w) true 1 f fd ["self"] (spGMoved (cl .Growing)) := by
 have S := sc_Growing_moved
 have Vv := v_Growing_moved
 have Lo := l_Growing_moved
 have Gg := g_Growing_moved
 refine F.ok S (fun vs H Q E h => ?_) (fun cdv A outer s H vs Q E hx hcx hh hr D h => ?_)
 ·obtain ⟨t, Ln, oL, r, st, s, rfl, _⟩ := h; rfl
 obtain ⟨t, Ln, oL, r, st, g, rfl, gf, q⟩ := h
 refine ⟨_, (pss_one (ps_ret (pe_fld (vn Vv 0) rfl))), ?_⟩
 obtain ⟨dx, v, ht, ra⟩ := gf.at_.obj
 exact ⟨_, rfl, t, _, dx, _, .int g.g, rfl, ht, T.clGrowing, T.nGrowing_moves_so_far, rfl, q⟩
end S60
namespace S60
open PySem L2 SC PyProof.Rows S40 Ly Gw
theorem sc__law_cell : FnScope ["_law_script", "_law_k"] ["_law_script", "_law_k"] (defScope (top 47)) := ⟨rfl, rfl, rfl, by decide +kernel, rfl, by decide +kernel, by decide +kernel⟩
theorem v__law_cell : Vs ["_law_script", "_law_k"] (defScope (top 47)) := Vs.of (by decide +kernel)
theorem l__law_cell : Ls ["_law_script", "_law_k"] (defScope (top 47)) := Ls.of sc__law_cell.nd (by decide +kernel)
theorem g__law_cell : Gs ["len"] (defScope (top 47)) := Gs.of (by decide +kernel)
theorem ok__law_cell {P : Program} {w : World} {K : PySem.W.Frag} {mg : Str → Option Value} {base : Heap} {f : Addr} {fd : FuncData} {cl : CN → Addr} (F : Fun K "_law_cell" "_law_cell" (top 47) f fd) (T : Tx K mg cl) :
  FnOk P w K mg base (CX1 P w) true 1 f fd ["_law_script", "_law_k"] (spCell K) := by
 have S := sc__law_cell
 have Vv := v__law_cell
 have Lo := l__law_cell
 have Gg := g__law_cell
 refine F.ok S (fun vs H Q E h => ?_) (fun cdv A outer s H vs Q E hx hcx hh hr D h => ?_)
 ·obtain ⟨v, r, k, rfl, _⟩ := h; rfl
 obtain ⟨p, ns, k, rfl, hp', hbig, ⟨k0, k1⟩, q⟩ := h
 refine ⟨_, (pss_cons (ps_if (pt_cmpR (op_eqL hr.units0) (vn Vv 0) (pe_lst pa_nil) (nomark _)) (pss_one (ps_ret (pe_op op_mulA (vn Vv 1) pe_int))) pss_nil)
  (pss_one (ps_ret (pe_op op_add (pe_ix ix_list (vn Vv 0) (pe_op op_mod (vn Vv 1) (cB (i := 0) Gg (call_len_seq) T.nlen bt_len (pa_cons (vn Vv 0) pa_nil))) (fun _ _ => rfl)) (pe_op op_mulA (pe_op op_fdivA (vn Vv 1) (cB (i := 0) Gg (call_len_seq) T.nlen bt_len (pa_cons (vn Vv 0) pa_nil))) pe_int))))), ?_⟩
 refine ⟨_, rfl, (by decide), fun l hl => ?_⟩
 have s1 := Same.new hl (.lst [])
 refine ⟨p, l, _, _, rfl, rfl, s1.seq hp', SqL.of upd_same, flat_ints ns, rfl, _, rfl, ite2 (fun c => ?_) fun c => ?_⟩
 ·exact ⟨_, rfl, _, _, rfl, rfl, mulC (by decide) (by decide), q _ _ s1⟩
 ·have hz : sizeLine < 2 ^ 60 := by decide
  have hne : ns ≠ [] := fun e => c (by rw [e]; rfl)
  have hl2 : 0 < ns.length := List.length_pos_iff.mpr hne
  have hl3 : (0 : Int) < ((ns.map V.int).length : Nat) := by rw [List.length_map]; omega
  have hp1 := s1.seq hp'
  obtain ⟨v, e1, e2⟩ := pick (xs := ns.map V.int) k _ rfl hl3
  obtain ⟨n, _, rfl⟩ := List.mem_map.mp e2
  exact ⟨_, rfl, _, rfl, _, rfl, p, _, rfl, .inl hp1, _, _, rfl, rfl, hl3, p, _, _, _, rfl, rfl, hp1, e1, _, rfl, _, rfl, p, _, rfl, .inl hp1, _, _, rfl, rfl, divC hl3 (by rw [List.length_map]; omega), _, _, rfl, rfl, mulC (by decide) (by decide), _, _, rfl, rfl, q _ _ s1⟩
end S60
namespace S60
open PySem L2 SC PyProof.Rows S40 Ly Gw
theorem sc__law_drawn : FnScope ["_law_cell_here", "_law_k", "_law_more"] ["_law_cell_here", "_law_k"] (defScope (top 48)) := ⟨rfl, rfl, rfl, by decide +kernel, rfl, by decide +kernel, by decide +kernel⟩
theorem v__law_drawn : Vs ["_law_cell_here", "_law_k", "_law_more"] (defScope (top 48)) := Vs.of (by decide +kernel)
theorem l__law_drawn : Ls ["_law_cell_here", "_law_k", "_law_more"] (defScope (top 48)) := Ls.of sc__law_drawn.nd (by decide +kernel)
theorem g__law_drawn : Gs [] (defScope (top 48)) := Gs.of (by decide +kernel)
theorem ok__law_drawn {P : Program} {w : World} {K : PySem.W.Frag} {mg : Str → Option Value} {base : Heap} {f : Addr} {fd : FuncData} {cl : CN → Addr} (F : Fun K "_law_drawn" "_law_drawn" (top 48) f fd) (T : Tx K mg cl) :
  FnOk P w K mg base (CX1 P w) true 1 f fd ["_law_cell_here", "_law_k"] (spDrawn) := by
 have S := sc__law_drawn
 have Vv := v__law_drawn
 have Lo := l__law_drawn
 have Gg := g__law_drawn
 refine F.ok S (fun vs H Q E h => ?_) (fun cdv A outer s H vs Q E hx hcx hh hr D h => ?_)
 ·obtain ⟨v, r, rfl, _⟩ := h; rfl
 obtain ⟨c, k, rfl, q⟩ := h
 refine ⟨_, (pss_cons (set_v (i := 2) Lo (pe_op op_mod (pe_op op_add (pe_op op_mulA (vn Vv 0) pe_int) (pe_op op_mulA (pe_op op_add (vn Vv 1) pe_int) pe_int)) pe_int))
  (pss_one (ps_ret (pe_op op_mod (pe_op op_mulA (vn Vv 2) (vn Vv 2)) pe_int)))), ?_⟩
 exact ⟨_, rfl, _, _, rfl, rfl, mulC (by decide) (by decide), _, rfl, _, _, rfl, rfl, _, _, rfl, rfl, mulC (by decide) (by decide), _, _, rfl, rfl, _, _, rfl, rfl, posJ (by decide),
  _, rfl, _, rfl, _, _, rfl, rfl, mulM _, _, _, rfl, rfl, posJ (by decide), q _ (Int.emod_nonneg _ (by decide)) (Int.lt_of_lt_of_le (Int.emod_lt_of_pos _ (by decide)) (by decide))⟩
end S60
namespace S60
open PySem L2 SC PyProof.Rows S40 Ly Gw
theorem sc__law_word : FnScope ["_law_e", "_law_flags"] ["_law_e"] (defScope (top 49)) := ⟨rfl, rfl, rfl, by decide +kernel, rfl, by decide +kernel, by decide +kernel⟩
theorem v__law_word : Vs ["_law_e", "_law_flags"] (defScope (top 49)) := Vs.of (by decide +kernel)
theorem l__law_word : Ls ["_law_e", "_law_flags"] (defScope (top 49)) := Ls.of sc__law_word.nd (by decide +kernel)
theorem g__law_word : Gs ["isinstance", "BadRule", "BadKey", "BadSize", "Full", "TooMany", "sum", "ValueError"] (defScope (top 49)) := Gs.of (by decide +kernel)
theorem ok__law_word {P : Program} {w : World} {K : PySem.W.Frag} {mg : Str → Option Value} {base : Heap} {f : Addr} {fd : FuncData} {cl : CN → Addr} (F : Fun K "_law_word" "_law_word" (top 49) f fd) (T : Tx K mg cl) :
  FnOk P w K mg base (CX1 P w) false 1 f fd ["_law_e"] (spWord K cl) := by
 have S := sc__law_word
 have Vv := v__law_word
 have Lo := l__law_word
 have Gg := g__law_word
 refine F.ok S (fun vs H Q E h => ?_) (fun cdv A outer s H vs Q E hx hcx hh hr D h => ?_)
 ·obtain ⟨a, o, C, j, rfl, _⟩ := h; rfl
 obtain ⟨a, o, C, j, rfl, ha, ho, W, hj, q⟩ := h
 refine ⟨_, (pss_cons (set_v (i := 1) Lo (pe_lst (pa_cons (cB (i := 0) Gg (call_isiE) T.nisinstance bt_isinstance (pa_cons (vn Vv 0) (pa_cons (nCls (i := 1) Gg T.mBadRule) pa_nil))) (pa_cons (cB (i := 0) Gg (call_isiE) T.nisinstance bt_isinstance (pa_cons (vn Vv 0) (pa_cons (nCls (i := 2) Gg T.mBadKey) pa_nil))) (pa_cons (cB (i := 0) Gg (call_isiE) T.nisinstance bt_isinstance (pa_cons (vn Vv 0) (pa_cons (nCls (i := 3) Gg T.mBadSize) pa_nil))) pa_nil)))))
  (pss_cons (set_v (i := 1) Lo (pe_op op_cat (vn Vv 1) (pe_lst (pa_cons (cB (i := 0) Gg (call_isiE) T.nisinstance bt_isinstance (pa_cons (vn Vv 0) (pa_cons (nCls (i := 4) Gg T.mFull) pa_nil))) pa_nil))))
  (pss_cons (ps_expr (pe_bm PySem.F.plainAttrs_list PySem.F.slot_list_append PySem.F.type_list_append mt_append (vn Vv 1) (pa_cons (cB (i := 0) Gg (call_isiE) T.nisinstance bt_isinstance (pa_cons (vn Vv 0) (pa_cons (nCls (i := 5) Gg T.mTooMany) pa_nil))) pa_nil)))
  (pss_cons (ps_if (PW.pt (pw_or (pt_cmpR op_ne (cB (i := 6) Gg (call_sum) T.nsum bt_sum (pa_cons (cmp (Nc := ["_law_flag"]) (caps := [none]) (j := 0) (N := ["_law_e", "_law_flags"]) (sc := defScope (top 49)) (Lc := ["int"]) ⟨rfl, by decide +kernel, by decide +kernel, by decide +kernel, rfl, by decide +kernel, by decide +kernel, rfl, rfl, by decide +kernel⟩ (pi_list (vn Vv 1)) (fun _ _ _ _ _ _ Vv Gg => pf_nil) (fun _ _ _ _ _ _ Vv Gg => (cTy (i := 0) Gg call_int1 T.nint bt_int (pa_cons (vn Vv 0) pa_nil)))) pa_nil)) pe_int (nomark _)) (pw_or1 (pt_not (pt_val (cB (i := 0) Gg (call_isiE) T.nisinstance bt_isinstance (pa_cons (vn Vv 0) (pa_cons (nTy (i := 7) Gg T.nValueError bt_ValueError) pa_nil)))))))) (pss_one (ps_ret pe_str)) pss_nil)
  (pss_one (ps_ret (pe_ix ix_list (pe_lst (pa_cons pe_str (pa_cons pe_str (pa_cons pe_str (pa_cons pe_str (pa_cons pe_str pa_nil)))))) (pe_bm PySem.F.plainAttrs_list PySem.F.slot_list_index PySem.F.type_list_index mt_index (vn Vv 1) (pa_cons pe_bl pa_nil)) (fun _ _ => rfl)))))))), ?_⟩
 refine ⟨_, rfl, _, _, C, _, rfl, ⟨a, o, rfl, ha, ho⟩, W.k, kc W.f0, _, rfl, _, _, C, _, rfl, ⟨a, o, rfl, ha, ho⟩, W.k, kc W.f1, _, rfl, _, _, C, _, rfl, ⟨a, o, rfl, ha, ho⟩, W.k, kc W.f2, small (n := 3) (by decide), fun p1 h1 => ?_⟩
 have s1 := Same.new h1 (.lst [.bl (j == 0), .bl (j == 1), .bl (j == 2)])
 refine ⟨_, rfl, _, rfl, _, _, C, _, rfl, ⟨a, o, rfl, s1 _ _ ha, ho⟩, W.k, kc W.f3, small (n := 1) (by decide), fun p2 h2 => ?_⟩
 have s2 := Same.new h2 (.lst [.bl (j == 3)])
 refine ⟨p1, p2, _, _, rfl, rfl, s2 _ _ upd_same, upd_same, small (n := 4) (by decide), fun p3 h3 => ?_⟩
 have s3 := Same.new h3 (.lst ([.bl (j == 0), .bl (j == 1), .bl (j == 2)] ++ [.bl (j == 3)]))
 have sA := s1.trans (s2.trans s3)
 refine ⟨_, rfl, .inl ⟨rfl, _, SqL.of upd_same⟩, _, rfl, _, _, C, _, rfl, ⟨a, o, rfl, sA _ _ ha, ho⟩, W.k, kc W.f4, p3, _, _, rfl, rfl, upd_same, small1000 (n := 4) (by decide), ?_⟩
 rw [upd_upd]
 have hn3 : H p3 = none := (s1.trans s2).free h3
 have sB : Same H (upd (upd (upd H p1 (.lst [.bl (j == 0), .bl (j == 1), .bl (j == 2)])) p2 (.lst [.bl (j == 3)])) p3 (.lst (([.bl (j == 0), .bl (j == 1), .bl (j == 2)] ++ [.bl (j == 3)]) ++ [.bl (j == 4)]))) := (s1.trans s2).trans (Same.new h3 _)
 have hp3 : (upd (upd (upd H p1 (.lst [.bl (j == 0), .bl (j == 1), .bl (j == 2)])) p2 (.lst [.bl (j == 3)])) p3 (.lst (([.bl (j == 0), .bl (j == 1), .bl (j == 2)] ++ [.bl (j == 3)]) ++ [.bl (j == 4)]))) p3 = some (.lst ([j == 0, j == 1, j == 2, j == 3, j == 4].map V.bl)) := upd_same
 revert sB hp3
 generalize (upd (upd (upd H p1 (.lst [.bl (j == 0), .bl (j == 1), .bl (j == 2)])) p2 (.lst [.bl (j == 3)])) p3 (.lst (([.bl (j == 0), .bl (j == 1), .bl (j == 2)] ++ [.bl (j == 3)]) ++ [.bl (j == 4)]))) = H3
 intro sB hp3
 refine ⟨_, rfl, p3, rfl, ⟨_, SqL.of hp3⟩, fun D hD => comp_list (xs := [j == 0, j == 1, j == 2, j == 3, j == 4].map V.bl) flagI (SqL.of hp3) hD (by simp) (fun x ys Q' hx hQ => ?_) ?_⟩
 ·obtain ⟨b, _, rfl⟩ := List.mem_map.mp hx
  exact ⟨_, rfl, .inr ⟨b, rfl, hQ⟩⟩
 ·refine ⟨D, [j == 0, j == 1, j == 2, j == 3, j == 4].map fun b => if b then 1 else 0, rfl, SqL.of (by rw [upd_same, List.map_map, List.map_map]; rfl), rfl, _, rfl, ?_⟩
  have sD := Same.new hD (.lst (([j == 0, j == 1, j == 2, j == 3, j == 4].map V.bl).map flagI))
  have hs : (([j == 0, j == 1, j == 2, j == 3, j == 4].map fun b => if b = true then (1 : Int) else 0).sum) = 1 := by rcases j5 hj with rfl | rfl | rfl | rfl | rfl <;> rfl
  refine iteNS (congrArg V.int hs) ⟨_, rfl, _, _, C, _, rfl, ⟨a, o, rfl, sD _ _ (sB _ _ ha), ho⟩, W.k, kty W.v, _, rfl, iteF ?_⟩
  refine ⟨small (n := 5) (by decide), fun p6 h6 => ?_⟩
  have s6 := Same.new h6 (.lst [.str "BadRule", .str "BadKey", .str "BadSize", .str "Full", .str "TooMany"])
  have h3' := s6 _ _ (sD _ _ hp3)
  refine ⟨_, rfl, .inl ⟨rfl, _, SqL.of h3'⟩, p3, _, .bl true, j, rfl, rfl, h3', rfl, rfl, ?_, p6, _, _, .str (nm j), rfl, rfl, SqL.of upd_same, ?_, q _ (sB.trans (sD.trans s6))⟩
  ·rcases j5 hj with rfl | rfl | rfl | rfl | rfl <;> rfl
  ·refine atI_nat ?_
   rcases j5 hj with rfl | rfl | rfl | rfl | rfl <;> rfl
end S60
namespace S60
open PySem L2 SC PyProof.Rows S40 Ly Gw
theorem sc__law_rule : FnScope ["_law_more", "_law_a", "_law_many"] ["_law_more"] (defScope (top 50)) := ⟨rfl, rfl, rfl, by decide +kernel, rfl, by decide +kernel, by decide +kernel⟩
theorem v__law_rule : Vs ["_law_more", "_law_a", "_law_many"] (defScope (top 50)) := Vs.of (by decide +kernel)
theorem l__law_rule : Ls ["_law_more", "_law_a", "_law_many"] (defScope (top 50)) := Ls.of sc__law_rule.nd (by decide +kernel)
theorem g__law_rule : Gs ["tuple", "range"] (defScope (top 50)) := Gs.of (by decide +kernel)
theorem ok__law_rule {P : Program} {w : World} {K : PySem.W.Frag} {mg : Str → Option Value} {base : Heap} {f : Addr} {fd : FuncData} {cl : CN → Addr} (F : Fun K "_law_rule" "_law_rule" (top 50) f fd) (T : Tx K mg cl) :
  FnOk P w K mg base (CX1 P w) true 1 f fd ["_law_more"] (spRuleL) := by
 have S := sc__law_rule
 have Vv := v__law_rule
 have Lo := l__law_rule
 have Gg := g__law_rule
 refine F.ok S (fun vs H Q E h => ?_) (fun cdv A outer s H vs Q E hx hcx hh hr D h => ?_)
 ·obtain ⟨v, rfl, _⟩ := h; rfl
 obtain ⟨m, rfl, m0, m1, q⟩ := h
 refine ⟨_, (pss_cons (set_v (i := 1) Lo (pe_ix ix_list (pe_lst (pa_cons pe_int (pa_cons pe_int (pa_cons pe_int (pa_cons pe_int (pa_cons pe_int (pa_cons (pe_op op_mod (pe_op op_fdivA (vn Vv 0) pe_int) pe_int) pa_nil))))))) (pe_op op_mod (pe_op op_fdivA (vn Vv 0) pe_int) pe_int) (fun _ _ => rfl)))
  (pss_cons (ps_if (pt_cmpR op_eq (pe_op op_mod (vn Vv 0) pe_int) pe_int (nomark _)) (pss_one (ps_ret (pe_tup (pa_cons pe_str (pa_cons (vn Vv 1) (pa_cons (pe_ix ix_list (pe_lst (pa_cons pe_int (pa_cons pe_int (pa_cons pe_int (pa_cons (pe_op op_mod (pe_op op_fdivA (vn Vv 0) (pe_op op_pow pe_int pe_int)) pe_int) pa_nil))))) (pe_op op_mod (pe_op op_fdivA (vn Vv 0) (pe_op op_pow pe_int pe_int)) pe_int) (fun _ _ => rfl)) pa_nil)))))) pss_nil)
  (pss_cons (ps_if (pt_cmpR op_eq (pe_op op_mod (vn Vv 0) pe_int) pe_int (nomark _)) (pss_one (ps_ret (pe_tup (pa_cons pe_str (pa_cons (vn Vv 1) (pa_cons (pe_ix ix_list (pe_lst (pa_cons pe_int (pa_cons pe_int (pa_cons pe_int (pa_cons pe_int (pa_cons (pe_op op_add pe_int (pe_op op_mod (pe_op op_fdivA (vn Vv 0) (pe_op op_pow pe_int pe_int)) pe_int)) pa_nil)))))) (pe_op op_mod (pe_op op_fdivA (vn Vv 0) (pe_op op_pow pe_int pe_int)) pe_int) (fun _ _ => rfl)) pa_nil)))))) pss_nil)
  (pss_cons (set_v (i := 2) Lo (pe_ix ix_list (pe_lst (pa_cons pe_int (pa_cons pe_int (pa_cons pe_int (pa_cons pe_int (pa_cons pe_int pa_nil)))))) (pe_op op_mod (pe_op op_fdivA (vn Vv 0) (pe_op op_pow pe_int pe_int)) pe_int) (fun _ _ => rfl)))
  (pss_one (ps_ret (pe_tup (pa_cons pe_str (pa_cons (cTy (i := 0) Gg call_tuple_of T.ntuple bt_tuple (pa_cons (cmp (Nc := ["_law_j", "_law_more"]) (caps := [none, some 0]) (j := 0) (N := ["_law_more", "_law_a", "_law_many"]) (sc := defScope (top 50)) (Lc := []) ⟨rfl, by decide +kernel, by decide +kernel, by decide +kernel, rfl, by decide +kernel, by decide +kernel, rfl, rfl, by decide +kernel⟩ (iR1 (i := 1) Gg T.nrange (pa_cons (vn Vv 2) pa_nil)) (fun _ _ _ _ _ _ Vv Gg => pf_nil) (fun _ _ _ _ _ _ Vv Gg => (pe_op op_mod (pe_op op_fdivA (vn Vv 1) (pe_op op_shl pe_int (vn Vv 0))) (pe_ix (ix_listK (K := K) rfl) (pe_lst (pa_cons pe_int (pa_cons pe_int (pa_cons pe_int pa_nil)))) (pe_op op_mod (pe_op op_fdivA (vn Vv 1) (pe_op op_pow pe_int pe_int)) pe_int) (fun _ _ => rfl))))) pa_nil)) pa_nil))))))))), ?_⟩
 obtain ⟨v1, e1, e2⟩ := pick (xs := [1, 3, 7, 0, 999999, m / 64 % 1000000].map V.int) (m / 8) 6 rfl (by decide)
 obtain ⟨a, rfl, a0, a1⟩ := memI (fun i => 0 ≤ i ∧ i ≤ 999999) e2 (allC (by omega) (allC (by omega) (allC (by omega) (allC (by omega) (allC (by omega) (allC (by omega) allI))))))
 refine ⟨_, rfl, _, _, rfl, rfl, divC (by decide) (by decide), _, _, rfl, rfl, posJ (by decide), small (n := 6) (by decide), fun p1 h1 => ?_⟩
 refine ⟨_, rfl, _, _, rfl, rfl, divC (by decide) (by decide), _, _, rfl, rfl, posJ (by decide), p1, _, _, _, rfl, rfl, SqL.of upd_same, e1, ?_⟩
 have s1 := Same.new h1 (.lst ([1, 3, 7, 0, 999999, m / 64 % 1000000].map V.int))
 generalize hH1 : upd H p1 (.lst ([1, 3, 7, 0, 999999, m / 64 % 1000000].map V.int)) = H1 at s1
 refine ⟨_, rfl, _, _, rfl, rfl, posJ (by decide), rfl, _, rfl, ite2 (fun c => ?_) fun c => ?_⟩
 ·obtain ⟨v2, e3, e4⟩ := pick (xs := [0, 5, 999999, m / 2 ^ 24 % 1000].map V.int) (m / 2 ^ 20) 4 rfl (by decide)
  obtain ⟨b, rfl, b0, b1⟩ := memI (fun i => 0 ≤ i ∧ i ≤ 999999) e4 (allC (by omega) (allC (by omega) (allC (by omega) (allC (by omega) allI))))
  refine ⟨_, rfl, _, rfl, _, _, rfl, rfl, cpw (by decide) (by decide), _, _, rfl, rfl, divC (by decide) (by decide), _, _, rfl, rfl, posJ (by decide), small (n := 4) (by decide), fun p2 h2 => ?_⟩
  refine ⟨_, rfl, _, _, rfl, rfl, cpw (by decide) (by decide), _, _, rfl, rfl, divC (by decide) (by decide), _, _, rfl, rfl, posJ (by decide), p2, _, _, _, rfl, rfl, SqL.of upd_same, e3, small (n := 3) (by decide), fun p3 h3 => ?_⟩
  exact q _ (.times a b) _ ((Same.new h1 _).trans ((Same.new h2 _).trans (Same.new h3 _))) ⟨p3, rfl, upd_same⟩ ⟨⟨a0, a1⟩, b0, b1⟩
 refine ⟨_, rfl, _, _, rfl, rfl, posJ (by decide), rfl, _, rfl, ite2 (fun c => ?_) fun c => ?_⟩
 ·obtain ⟨v2, e3, e4⟩ := pick (xs := [1, 3, 8, 30, 1 + m / 2 ^ 24 % 30].map V.int) (m / 2 ^ 20) 5 rfl (by decide)
  obtain ⟨b, rfl, b0, b1⟩ := memI (fun i => 1 ≤ i ∧ i ≤ 30) e4 (allC (by omega) (allC (by omega) (allC (by omega) (allC (by omega) (allC (by omega) allI)))))
  refine ⟨_, rfl, _, rfl, _, _, rfl, rfl, cpw (by decide) (by decide), _, _, rfl, rfl, divC (by decide) (by decide), _, _, rfl, rfl, posJ (by decide), _, _, rfl, rfl, small (n := 5) (by decide), fun p2 h2 => ?_⟩
  refine ⟨_, rfl, _, _, rfl, rfl, cpw (by decide) (by decide), _, _, rfl, rfl, divC (by decide) (by decide), _, _, rfl, rfl, posJ (by decide), p2, _, _, _, rfl, rfl, SqL.of upd_same, e3, small (n := 3) (by decide), fun p3 h3 => ?_⟩
  exact q _ (.high a b) _ ((Same.new h1 _).trans ((Same.new h2 _).trans (Same.new h3 _))) ⟨p3, rfl, upd_same⟩ ⟨⟨a0, a1⟩, b0, b1⟩
 obtain ⟨v2, e3, e4⟩ := pick (xs := [1, 2, 5, 8, 64].map V.int) (m / 2 ^ 20) 5 rfl (by decide)
 obtain ⟨n, rfl, n0, n1⟩ := memI (fun i => 1 ≤ i ∧ i ≤ 64) e4 (allC (by omega) (allC (by omega) (allC (by omega) (allC (by omega) (allC (by omega) allI)))))
 refine ⟨small (n := 5) (by decide), fun p2 h2 => ?_⟩
 refine ⟨_, rfl, _, _, rfl, rfl, cpw (by decide) (by decide), _, _, rfl, rfl, divC (by decide) (by decide), _, _, rfl, rfl, posJ (by decide), p2, _, _, _, rfl, rfl, SqL.of upd_same, e3, ?_⟩
 refine ⟨_, rfl, n, rfl, (by omega), (by omega), fun D hD => comp_rangeG (lo := 0) (n := n.toNat) (fun _ v => ∃ i, v = .int i ∧ 0 ≤ i ∧ i ≤ 999) hD (by omega) (fun i ys H3 Q' hi s3 hys hQ => ?_) fun H3 ys s3 hys hl hR => ?_⟩
 ·obtain ⟨v3, e5, e6⟩ := pick (xs := [2, 4, 1000].map V.int) (m / 2 ^ 30) 3 rfl (by decide)
  obtain ⟨d, rfl, d0, d1⟩ := memI (fun i => 1 ≤ i ∧ i ≤ 1000) e6 (allC (by omega) (allC (by omega) (allC (by omega) allI)))
  refine ⟨_, rfl, _, rfl, _, _, rfl, rfl, cpw1 (by omega) (by omega), _, _, rfl, rfl, shl1 (by omega), small (n := 3) (by decide), fun p4 h4 => ?_⟩
  refine ⟨_, rfl, _, _, rfl, rfl, cpw (by decide) (by decide), _, _, rfl, rfl, divC (by decide) (by decide), _, _, rfl, rfl, posJ (by decide), p4, _, _, _, rfl, rfl, SqL.of upd_same, e5, _, _, rfl, rfl, posJ (by omega), ?_⟩
  exact hQ _ _ ⟨_, rfl, Int.emod_nonneg _ (by omega), by have := Int.emod_lt_of_pos (m / (1 * 2 ^ (0 + (i : Int)).toNat)) (show 0 < d by omega); omega⟩ (Same.new h4 _)
 ·have hz : ∃ ns : List Int, ys = ns.map V.int ∧ ∀ n ∈ ns, 0 ≤ n ∧ n ≤ 999 := allWhole (hi := 999) (List.all_eq_true.mpr fun y hy => by
   obtain ⟨k, hk⟩ := List.getElem?_of_mem hy
   obtain ⟨i, rfl, i0, i1⟩ := hR k y hk
   exact wholeV_int i0 i1)
  obtain ⟨ns, rfl, hns⟩ := hz
  rw [List.length_map] at hl
  refine ⟨D, _, rfl, .inl ⟨SqL.of hys, fun l hl2 => ⟨small (n := 2) (by decide), fun p5 h5 => ?_⟩⟩⟩
  exact q _ (.told ns) _ ((Same.new h1 _).trans ((Same.new h2 _).trans (s3.trans ((Same.new hl2 _).trans (Same.new h5 _))))) ⟨p5, l, rfl, upd_same, Same.new h5 _ _ _ upd_same⟩ ⟨⟨by omega, by omega⟩, hns⟩
end S60
namespace S60
open PySem L2 SC PyProof.Rows S40 Ly Gw
theorem sc__law_home : FnScope ["_law_rule_here", "_law_key", "_law_size", "_law_whole", "_law_turn"] ["_law_rule_here", "_law_key", "_law_size"] (defScope (top 51)) := ⟨rfl, rfl, rfl, by decide +kernel, rfl, by decide +kernel, by decide +kernel⟩
theorem v__law_home : Vs ["_law_rule_here", "_law_key", "_law_size", "_law_whole", "_law_turn"] (defScope (top 51)) := Vs.of (by decide +kernel)
theorem l__law_home : Ls ["_law_rule_here", "_law_key", "_law_size", "_law_whole", "_law_turn"] (defScope (top 51)) := Ls.of sc__law_home.nd (by decide +kernel)
theorem g__law_home : Gs ["len", "range"] (defScope (top 51)) := Gs.of (by decide +kernel)
theorem ok__law_home {P : Program} {w : World} {K : PySem.W.Frag} {mg : Str → Option Value} {base : Heap} {f : Addr} {fd : FuncData} {cl : CN → Addr} (F : Fun K "_law_home" "_law_home" (top 51) f fd) (T : Tx K mg cl) :
  FnOk P w K mg base (CX1 P w) true 1 f fd ["_law_rule_here", "_law_key", "_law_size"] (spHomeL) := by
 have S := sc__law_home
 have Vv := v__law_home
 have Lo := l__law_home
 have Gg := g__law_home
 refine F.ok S (fun vs H Q E h => ?_) (fun cdv A outer s H vs Q E hx hcx hh hr D h => ?_)
 ·obtain ⟨v, r, k, z, rfl, _⟩ := h; rfl
 obtain ⟨v, r, k, z, rfl, ra, rk, ⟨k0, k1⟩, ⟨z0, z1⟩, q⟩ := h
 have hp := passesXE (E := E) D
 refine ⟨_, (pss_cons (ps_if (pt_cmpR op_eq (pe_ix ix_tup (vn Vv 0) pe_int (fun _ _ => rfl)) pe_str (nomark _)) (pss_one (ps_ret (pe_op op_mod (pe_op op_add (pe_op op_mulA (pe_ix ix_tup (vn Vv 0) pe_int (fun _ _ => rfl)) (vn Vv 1)) (pe_ix ix_tup (vn Vv 0) pe_int (fun _ _ => rfl))) (vn Vv 2)))) pss_nil)
  (pss_cons (ps_if (pt_cmpR op_eq (pe_ix ix_tup (vn Vv 0) pe_int (fun _ _ => rfl)) pe_str (nomark _)) (pss_one (ps_ret (pe_op op_mod (pe_ix ix_tup (pe_ix ix_tup (vn Vv 0) pe_int (fun _ _ => rfl)) (pe_op op_mod (vn Vv 1) (cB (i := 0) Gg (call_len_seq) T.nlen bt_len (pa_cons (pe_ix ix_tup (vn Vv 0) pe_int (fun _ _ => rfl)) pa_nil))) (fun _ _ => rfl)) (vn Vv 2)))) pss_nil)
  (pss_cons (set_v (i := 3) Lo pe_int)
  (pss_cons (ps_for hp (iR1 (i := 1) Gg T.nrange (pa_cons (pe_op op_sub (pe_ix ix_tup (vn Vv 0) pe_int (fun _ _ => rfl)) pe_int) pa_nil)) (tgt_v (i := 4) Lo)
  (pss_one (set_v (i := 3) Lo (pe_op op_mulA (vn Vv 3) pe_int))))
  (pss_one (ps_ret (pe_op op_fdivA (pe_op op_mulA (pe_op op_mod (pe_op op_mulA (pe_ix ix_tup (vn Vv 0) pe_int (fun _ _ => rfl)) (vn Vv 1)) (vn Vv 3)) (vn Vv 2)) (vn Vv 3)))))))), ?_⟩
 cases r with
 | times a b =>
  obtain ⟨p, rfl, hp⟩ := ra
  refine ⟨_, rfl, p, _, _, .str "times", rfl, rfl, SqT.of hp, rfl, rfl, _, rfl, iteY (sY _) ?_⟩
  refine ⟨_, rfl, p, _, _, .int a, rfl, rfl, SqT.of hp, rfl, _, rfl, _, _, rfl, rfl, mulS k0 (by omega), _, rfl, p, _, _, .int b, rfl, rfl, SqT.of hp, rfl, _, _, rfl, rfl, _, rfl, _, _, rfl, rfl, (by omega), q⟩
 | high a b =>
  obtain ⟨p, rfl, hp⟩ := ra
  obtain ⟨⟨a0, a1⟩, b0, b1⟩ := rk
  obtain ⟨w0, w1⟩ := pow30 (n := b.toNat) (by omega)
  refine ⟨_, rfl, p, _, _, .str "high", rfl, rfl, SqT.of hp, rfl, rfl, _, rfl, iteN (by rw [sT _ _ (by decide +kernel)]; exact Bool.false_ne_true) ?_⟩
  refine ⟨_, rfl, p, _, _, .str "high", rfl, rfl, SqT.of hp, rfl, rfl, _, rfl, iteN (by rw [sT _ _ (by decide +kernel)]; exact Bool.false_ne_true) ?_⟩
  refine ⟨_, rfl, p, _, _, .int b, rfl, rfl, SqT.of hp, rfl, _, _, rfl, rfl, b - 1, rfl, (by omega), (by omega), for_range (n := (b - 1).toNat) (fun i σ H2 => ∃ v, σ = [some (.ref p), some (.int k), some (.int z), some (.int (2 ^ (i + 1))), v] ∧ H2 = H) ⟨none, rfl, rfl⟩ (fun i σ H2 hi ⟨v, e1, e2⟩ => ?_) (fun σ H2 ⟨v, e1, e2⟩ => ?_)⟩
  ·subst e1 e2
   refine ⟨_, rfl, _, _, rfl, rfl, mul2 _, some (.int (0 + i)), ?_, rfl⟩
   rw [Int.pow_succ (2 : Int) (i + 1)]
   rfl
  ·subst e1 e2
   have e : (b - 1).toNat + 1 = b.toNat := by omega
   rw [e]
   refine ⟨_, rfl, p, _, _, .int a, rfl, rfl, SqT.of hp, rfl, _, rfl, _, _, rfl, rfl, mulS k0 (by omega), _, rfl, _, _, rfl, rfl, w0, _, rfl, _, _, rfl, rfl, mulS (by omega) (by omega), _, rfl, _, _, rfl, rfl, ⟨w0, Int.lt_of_le_of_lt w1 (by decide)⟩, q⟩
 | told ns =>
  obtain ⟨p, p2, rfl, hp, hq⟩ := ra
  obtain ⟨⟨l0, l1⟩, b1⟩ := rk
  have hl : (0 : Int) < ((ns.map V.int).length : Nat) := by rw [List.length_map]; omega
  refine ⟨_, rfl, p, _, _, .str "told", rfl, rfl, SqT.of hp, rfl, rfl, _, rfl, iteN (by rw [sT _ _ (by decide +kernel)]; exact Bool.false_ne_true) ?_⟩
  refine ⟨_, rfl, p, _, _, .str "told", rfl, rfl, SqT.of hp, rfl, rfl, _, rfl, iteY (sY _) ?_⟩
  refine ⟨_, rfl, p, _, _, .ref p2, rfl, rfl, SqT.of hp, rfl, _, rfl, _, rfl, p, _, _, .ref p2, rfl, rfl, SqT.of hp, rfl, p2, _, rfl, .inr (SqT.of hq), _, _, rfl, rfl, hl, p2, _, _, _, rfl, rfl, SqT.of hq, atI_getD (Int.emod_nonneg _ (by omega)) (by have := Int.emod_lt_of_pos k hl; rw [List.length_map] at this ⊢; exact this), _, rfl, _, _, rfl, rfl, (by omega), ?_⟩
  have q' : Q (.int (ns.getD (k % ns.length).toNat 0 % z)) H := q
  rw [List.length_map]
  exact q'
end S60
namespace S60
open PySem L2 SC PyProof.Rows S40 Ly Gw
theorem sc__law_keys : FnScope ["_law_more", "_law_many", "_law_found", "_law_j", "_law_key"] ["_law_more", "_law_many"] (defScope (top 52)) := ⟨rfl, rfl, rfl, by decide +kernel, rfl, by decide +kernel, by decide +kernel⟩
theorem v__law_keys : Vs ["_law_more", "_law_many", "_law_found", "_law_j", "_law_key"] (defScope (top 52)) := Vs.of (by decide +kernel)
theorem l__law_keys : Ls ["_law_more", "_law_many", "_law_found", "_law_j", "_law_key"] (defScope (top 52)) := Ls.of sc__law_keys.nd (by decide +kernel)
theorem g__law_keys : Gs ["range", "_law_drawn"] (defScope (top 52)) := Gs.of (by decide +kernel)
theorem ok__law_keys {P : Program} {w : World} {K : PySem.W.Frag} {mg : Str → Option Value} {base : Heap} {f : Addr} {fd : FuncData} {cl : CN → Addr} (F : Fun K "_law_keys" "_law_keys" (top 52) f fd) (T : Tx K mg cl) (O__law_drawn : Own P w K mg base true 1 "_law_drawn" ["_law_cell_here", "_law_k"] (spDrawn)) :
  FnOk P w K mg base (CX1 P w) true 2 f fd ["_law_more", "_law_many"] (spKeysL) := by
 have S := sc__law_keys
 have Vv := v__law_keys
 have Lo := l__law_keys
 have Gg := g__law_keys
 refine F.ok S (fun vs H Q E h => ?_) (fun cdv A outer s H vs Q E hx hcx hh hr D h => ?_)
 ·obtain ⟨m, n, rfl, _⟩ := h; rfl
 obtain ⟨m, n, rfl, n1, q⟩ := h
 have hp := passesXE (E := E) D
 refine ⟨_, (pss_cons (set_v (i := 2) Lo (pe_lst pa_nil))
  (pss_cons (ps_for hp (iR1 (i := 0) Gg T.nrange (pa_cons (vn Vv 1) pa_nil)) (tgt_v (i := 3) Lo)
  (pss_cons (set_v (i := 4) Lo (pe_ix ix_list (pe_lst (pa_cons (pe_op op_mod (cOwn (i := 1) Gg O__law_drawn (hr.mono (by decide)) passX (pa_cons (vn Vv 0) (pa_cons (vn Vv 3) pa_nil))) pe_int) (pa_cons (pe_op op_mod (cOwn (i := 1) Gg O__law_drawn (hr.mono (by decide)) passX (pa_cons (vn Vv 0) (pa_cons (vn Vv 3) pa_nil))) pe_int) (pa_cons (pe_op op_mulA pe_int (vn Vv 3)) pa_nil)))) (pe_op op_mod (vn Vv 0) pe_int) (fun _ _ => rfl)))
  (pss_cons (ps_while hp (pt_cmpR op_in_seq (vn Vv 4) (vn Vv 2) (by with_unfolding_all rfl)) (pss_one (set_v (i := 4) Lo (pe_op op_mod (pe_op op_add (vn Vv 4) pe_int) pe_int))))
  (pss_one (ps_expr (pe_bm PySem.F.plainAttrs_list PySem.F.slot_list_append PySem.F.type_list_append mt_append (vn Vv 2) (pa_cons (vn Vv 4) pa_nil)))))))
  (pss_one (ps_ret (vn Vv 2))))), ?_⟩
 have hz : 100000 < sizeLine := by decide
 refine ⟨(show 0 ≤ sizeLine by decide), fun l hl => ⟨_, rfl, n, rfl, by omega, by omega, ?_⟩⟩
 rw [Int.toNat_natCast]
 refine for_range (n := n) (InvKo m n l H) ⟨none, none, [], rfl, Same.new hl _, upd_same, rfl, List.nodup_nil, (fun a h => nomatch h)⟩ ?_ ?_
 ·rintro i σ H2 hi ⟨x3, x4, acc, rfl, sm, h2, hal, nd, hb⟩
  refine ⟨_, rfl, _, rfl, m, 0 + (i : Int), rfl, fun d1 a1 b1 => ⟨_, _, rfl, rfl, posJ (by decide), _, rfl, _, rfl, m, 0 + (i : Int), rfl, fun d2 a2 b2 => ⟨_, _, rfl, rfl, posJ (by decide), _, rfl, _, _, rfl, rfl, mulC (by omega) (by omega), small (n := 3) (by decide), fun p1 h1 => ?_⟩⟩⟩
  obtain ⟨v1, e1, e2⟩ := pick (xs := [d1 % 24, d2 % 1000000, 3 * (0 + (i : Int))].map V.int) m 3 rfl (by decide)
  obtain ⟨k0, rfl, k1, k2⟩ := memI (fun i => 0 ≤ i ∧ i ≤ 999999) e2 (allC (by omega) (allC (by omega) (allC (by omega) allI)))
  have s1 := Same.new h1 (.lst ([d1 % 24, d2 % 1000000, 3 * (0 + (i : Int))].map V.int))
  refine ⟨_, rfl, _, _, rfl, rfl, posJ (by decide), p1, _, _, _, rfl, rfl, SqL.of upd_same, e1, ?_⟩
  have h3 := s1 _ _ h2
  have s3 := sm.trans s1
  obtain ⟨x, rfl⟩ : ∃ x : Nat, k0 = x := ⟨k0.toNat, by omega⟩
  have hxs : x < 1000000 := by omega
  obtain ⟨t1, t2, t3⟩ := tt_spec (s := 1000000) (p := x) (acc := acc) hxs (by omega)
  generalize tt 1000000 acc x = t at t1 t2 t3
  refine ⟨InvKi m n l i x t acc H, ⟨t, 0, by rw [Nat.add_zero, Nat.mod_eq_of_lt hxs]; rfl, h3, s3, by omega, rfl⟩, ?_⟩
  clear h3 s3
  rintro mm σ H4 ⟨u, rfl, h3, s3, hu, hmm⟩
  refine ⟨_, rfl, _, rfl, l, _, rfl, .inl (SqL.of h3), rfl, flat_natsL acc, _, rfl, ?_⟩
  rw [if_neg Bool.false_ne_true, in_nats]
  refine ite2 (fun c => ?_) fun c => ?_
  ·have c' := of_decide_eq_true c
   have hut : u < t := by
    rcases Nat.lt_or_eq_of_le hu with z | z
    ·exact z
    ·rw [z] at c'; exact absurd c' t2
   refine ⟨_, fun _ _ h => h, ?_⟩
   refine ⟨_, rfl, _, _, rfl, rfl, _, _, rfl, rfl, posJ (by decide), ?_⟩
   refine ⟨t - (u + 1), by omega, u + 1, ?_, h3, s3, by omega, rfl⟩
   rw [← SC.next_place]
   rfl
  ·have hut : u = t := by
    rcases Nat.lt_or_eq_of_le hu with z | z
    ·exact absurd (decide_eq_true (t1 u z)) c
    ·exact z
   subst hut
   refine ⟨_, rfl, .inl ⟨rfl, _, SqL.of h3⟩, _, rfl, l, _, _, rfl, rfl, h3, by rw [nats_len]; omega, ?_⟩
   refine ⟨_, _, acc ++ [(x + u) % 1000000], rfl, s3.upd hl h3 _, ?_, ?_, ?_, ?_⟩
   ·rw [upd_same]
    unfold nats
    rw [List.map_append]; rfl
   ·rw [List.length_append, hal]; rfl
   ·rw [List.nodup_append]
    exact ⟨nd, by simp, fun a ha b hb => by rw [List.mem_singleton.mp hb]; exact fun w => t2 (w ▸ ha)⟩
   ·intro a ha
    rcases List.mem_append.mp ha with w | w
    ·exact hb a w
    ·rw [List.mem_singleton.mp w]; exact Nat.mod_lt _ (by decide)
 ·rintro σ H2 ⟨x3, x4, acc, rfl, sm, h2, hal, nd, hb⟩
  exact ⟨_, rfl, q l _ _ H2 sm h2 (good_nats nd hb) (by rw [List.length_map]; exact hal)⟩
end S60
namespace S60
open PySem L2 SC PyProof.Rows S40 Ly Gw
theorem sc__law_filled : FnScope ["_law_homes", "_law_size", "_law_found", "_law_place"] ["_law_homes", "_law_size"] (defScope (top 53)) := ⟨rfl, rfl, rfl, by decide +kernel, rfl, by decide +kernel, by decide +kernel⟩
theorem v__law_filled : Vs ["_law_homes", "_law_size", "_law_found", "_law_place"] (defScope (top 53)) := Vs.of (by decide +kernel)
theorem l__law_filled : Ls ["_law_homes", "_law_size", "_law_found", "_law_place"] (defScope (top 53)) := Ls.of sc__law_filled.nd (by decide +kernel)
theorem g__law_filled : Gs [] (defScope (top 53)) := Gs.of (by decide +kernel)
theorem ok__law_filled {P : Program} {w : World} {K : PySem.W.Frag} {mg : Str → Option Value} {base : Heap} {f : Addr} {fd : FuncData} {cl : CN → Addr} (F : Fun K "_law_filled" "_law_filled" (top 53) f fd) (T : Tx K mg cl) :
  FnOk P w K mg base (CX1 P w) true 1 f fd ["_law_homes", "_law_size"] (spFilled) := by
 have S := sc__law_filled
 have Vv := v__law_filled
 have Lo := l__law_filled
 have Gg := g__law_filled
 refine F.ok S (fun vs H Q E h => ?_) (fun cdv A outer s H vs Q E hx hcx hh hr D h => ?_)
 ·obtain ⟨p, n, hs, rfl, _⟩ := h; rfl
 obtain ⟨p, n, hs, rfl, hp0, hb, hkl, n1, q⟩ := h
 have hp := passesXE (E := E) D
 refine ⟨_, (pss_cons (set_v (i := 2) Lo (pe_op op_rep (pe_lst (pa_cons pe_bl pa_nil)) (vn Vv 1)))
  (pss_cons (ps_for hp (pi_list (vn Vv 0)) (tgt_v (i := 3) Lo)
  (pss_cons (ps_while hp (pt_val (pe_ix ix_list (vn Vv 2) (vn Vv 3) (fun _ _ => rfl))) (pss_one (set_v (i := 3) Lo (pe_op op_mod (pe_op op_add (vn Vv 3) pe_int) (vn Vv 1)))))
  (pss_one (ps_asg pe_bl (pg_sub (vn Vv 2) (vn Vv 3) set_list)))))
  (pss_one (ps_ret (vn Vv 2))))), ?_⟩
 have hz : 100000 < sizeLine := by decide
 refine ⟨(show 1 ≤ sizeLine by decide), fun l0 hl0 => ⟨_, rfl, l0, n, _, rfl, rfl, upd_same, by omega, by omega, ?_, fun L hL => ?_⟩⟩
 ·rw [Int.toNat_natCast]; simp only [List.length_cons, List.length_nil]; omega
 rw [Int.toNat_natCast, rep_bl]
 have s0 := Same.new hl0 (.lst [.bl false])
 have hLn := s0.free hL
 have sL := s0.trans (Same.new hL (.lst (blT n [])))
 have hLL : upd (upd H l0 (.lst [.bl false])) L (.lst (blT n [])) L = some (.lst (blT n [])) := upd_same
 generalize upd (upd H l0 (.lst [.bl false])) L (.lst (blT n [])) = H1 at sL hLL
 refine ⟨_, rfl, p, rfl, ⟨_, SqL.of (sL _ _ hp0)⟩, for_list (xs := nats hs) (InvFo p n L hs H) ⟨none, rfl, sL, hLL⟩ (fun i σ H2 _ ⟨_, _, sm, _⟩ => SqL.of (sm _ _ hp0)) ?_ ?_⟩
 ·rintro i y σ H2 hy ⟨x3, rfl, sm, h2⟩
  obtain ⟨x, hk, rfl⟩ := nats_at hy
  have hi : i < hs.length := (List.getElem?_eq_some_iff.mp hk).1
  have hx := hb x (List.mem_of_getElem? hk)
  have hpl := fps_tlen (s := n) (l := hs) (i := i) (by omega)
  obtain ⟨t1, t2, t3⟩ := tt_spec (s := n) (p := x) (acc := fps n [] (hs.take i)) hx (by omega)
  obtain ⟨f1, _⟩ := fps_take (s := n) hk
  generalize fps n [] (hs.take i) = acc at hpl t1 t2 t3 f1 h2
  generalize tt n acc x = t at t1 t2 t3 f1
  refine ⟨InvFi p n L x t H2, ⟨t, 0, by rw [Nat.add_zero, Nat.mod_eq_of_lt hx]; rfl, rfl, by omega, rfl⟩, ?_⟩
  rintro mm σ H3 ⟨u, rfl, rfl, hu, hmm⟩
  have hpn : (x + u) % n < n := Nat.mod_lt _ (by omega)
  refine ⟨_, rfl, _, rfl, L, _, _, _, rfl, rfl, SqL.of h2, atI_nat (blT_at hpn), _, rfl, ite2 (fun c => ?_) fun c => ?_⟩
  ·have hut : u < t := by
    rcases Nat.lt_or_eq_of_le hu with z | z
    ·exact z
    ·rw [z] at c; exact absurd (S40.mem_iff.mp c) t2
   refine ⟨_, fun _ _ h => h, ?_⟩
   refine ⟨_, rfl, _, _, rfl, rfl, _, rfl, _, _, rfl, rfl, posJ (by omega), ?_⟩
   refine ⟨t - (u + 1), by omega, u + 1, ?_, rfl, by omega, rfl⟩
   rw [← SC.next_place]
   rfl
  ·have hut : u = t := by
    rcases Nat.lt_or_eq_of_le hu with z | z
    ·exact absurd (S40.mem_iff.mpr (t1 u z)) c
    ·exact z
   subst hut
   refine ⟨_, rfl, _, rfl, L, _, _, (x + u) % n, rfl, rfl, h2, ixN_nat (by rw [blT_len]; exact hpn), ?_⟩
   refine ⟨_, rfl, sm.upd hLn h2 _, ?_⟩
   rw [upd_same, blT_set hpn, f1]
 ·rintro σ H2 ⟨x3, rfl, sm, h2⟩
  rw [nats_len, List.take_length] at h2
  exact ⟨_, rfl, q L H2 sm h2⟩
end S60
namespace S60
open PySem L2 SC PyProof.Rows S40 Ly Gw
theorem sc__law_lay : FnScope ["_law_rule_here", "_law_size", "_law_keys_here", "_law_taken", "_law_begin", "_law_order", "_law_found", "_law_j", "_law_place"] ["_law_rule_here", "_law_size", "_law_keys_here"] (defScope (top 54)) := ⟨rfl, rfl, rfl, by decide +kernel, rfl, by decide +kernel, by decide +kernel⟩
theorem v__law_lay : Vs ["_law_rule_here", "_law_size", "_law_keys_here", "_law_taken", "_law_begin", "_law_order", "_law_found", "_law_j", "_law_place"] (defScope (top 54)) := Vs.of (by decide +kernel)
theorem l__law_lay : Ls ["_law_rule_here", "_law_size", "_law_keys_here", "_law_taken", "_law_begin", "_law_order", "_law_found", "_law_j", "_law_place"] (defScope (top 54)) := Ls.of sc__law_lay.nd (by decide +kernel)
theorem g__law_lay : Gs ["_law_filled", "sorted", "range"] (defScope (top 54)) := Gs.of (by decide +kernel)
theorem ok__law_lay {P : Program} {w : World} {K : PySem.W.Frag} {mg : Str → Option Value} {base : Heap} {f : Addr} {fd : FuncData} {cl : CN → Addr} (F : Fun K "_law_lay" "_law_lay" (top 54) f fd) (T : Tx K mg cl) (O__law_home : Own P w K mg base true 1 "_law_home" ["_law_rule_here", "_law_key", "_law_size"] (spHomeL)) (O__law_filled : Own P w K mg base true 1 "_law_filled" ["_law_homes", "_law_size"] (spFilled)) :
  FnOk P w K mg base (CX1 P w) true 2 f fd ["_law_rule_here", "_law_size", "_law_keys_here"] (spLayG) := by
 have S := sc__law_lay
 have Vv := v__law_lay
 have Lo := l__law_lay
 have Gg := g__law_lay
 refine F.ok S (fun vs H Q E h => ?_) (fun cdv A outer s H vs Q E hx hcx hh hr D h => ?_)
 ·obtain ⟨v, r, n, p, ks, F, rfl, _⟩ := h; rfl
 obtain ⟨v, r, n, p, ks, F, rfl, ⟨ra, rk, n2, n1⟩, ⟨n64, k64⟩, hp0, nd, hb, hkl, ok, hF, q⟩ := h
 have hp := passesXE (E := E) D
 refine ⟨_, (pss_cons (set_v (i := 3) Lo (cOwn (i := 0) Gg O__law_filled (hr.mono (by decide)) passX (pa_cons (cmp (Nc := ["_law_key", "_law_rule_here", "_law_size"]) (caps := [none, some 0, some 1]) (j := 0) (N := ["_law_rule_here", "_law_size", "_law_keys_here", "_law_taken", "_law_begin", "_law_order", "_law_found", "_law_j", "_law_place"]) (sc := defScope (top 54)) (Lc := ["_law_home"]) ⟨rfl, by decide +kernel, by decide +kernel, by decide +kernel, rfl, by decide +kernel, by decide +kernel, rfl, rfl, by decide +kernel⟩ (pi_list (vn Vv 2)) (fun _ _ _ _ _ _ Vv Gg => pf_nil) (fun _ _ _ _ _ _ Vv Gg => (cOwn (i := 0) Gg O__law_home (hr.mono (by decide)) passN (pa_cons (vn Vv 1) (pa_cons (vn Vv 0) (pa_cons (vn Vv 2) pa_nil)))))) (pa_cons (vn Vv 1) pa_nil))))
  (pss_cons (set_v (i := 4) Lo (pe_op op_mod (pe_op op_add (pe_bm PySem.F.plainAttrs_list PySem.F.slot_list_index PySem.F.type_list_index mt_index (vn Vv 3) (pa_cons pe_bl pa_nil)) pe_int) (vn Vv 1)))
  (pss_cons (set_v (i := 5) Lo (cB (i := 1) Gg (call_sortedP) T.nsorted bt_sorted (pa_cons (cmp (Nc := ["_law_key", "_law_size", "_law_begin", "_law_rule_here"]) (caps := [none, some 1, some 4, some 0]) (j := 0) (N := ["_law_rule_here", "_law_size", "_law_keys_here", "_law_taken", "_law_begin", "_law_order", "_law_found", "_law_j", "_law_place"]) (sc := defScope (top 54)) (Lc := ["_law_home"]) ⟨rfl, by decide +kernel, by decide +kernel, by decide +kernel, rfl, by decide +kernel, by decide +kernel, rfl, rfl, by decide +kernel⟩ (pi_list (vn Vv 2)) (fun _ _ _ _ _ _ Vv Gg => pf_nil) (fun _ _ _ _ _ _ Vv Gg => (pe_tup (pa_cons (pe_op op_mod (pe_op op_sub (cOwn (i := 0) Gg O__law_home (hr.mono (by decide)) passN (pa_cons (vn Vv 3) (pa_cons (vn Vv 0) (pa_cons (vn Vv 1) pa_nil)))) (vn Vv 2)) (vn Vv 1)) (pa_cons (vn Vv 0) pa_nil))))) pa_nil)))
  (pss_cons (set_v (i := 6) Lo (pe_op op_rep (pe_lst (pa_cons pe_non pa_nil)) (vn Vv 1)))
  (pss_cons (ps_for hp (iR1 (i := 2) Gg T.nrange (pa_cons (vn Vv 1) pa_nil)) (tgt_v (i := 7) Lo)
  (pss_cons (set_v (i := 8) Lo (pe_op op_mod (pe_op op_add (vn Vv 4) (vn Vv 7)) (vn Vv 1)))
  (pss_one (ps_if (pt_val (pe_ix ix_list (vn Vv 3) (vn Vv 8) (fun _ _ => rfl))) (pss_one (ps_asg (pe_ix ix_tup (pe_bm PySem.F.plainAttrs_list PySem.F.slot_list_pop PySem.F.type_list_pop mt_popAt (vn Vv 5) (pa_cons pe_int pa_nil)) pe_int (fun _ _ => rfl)) (pg_sub (vn Vv 6) (vn Vv 8) set_list))) pss_nil))))
  (pss_one (ps_ret (vn Vv 6)))))))), ?_⟩
 have hz : 100000 < sizeLine := by decide
 have hh := hm_lt rk (show 0 < n by omega)
 obtain ⟨f1, _, _⟩ := fc_row rk n2 hkl nd hb ok hF
 have hN : ∀ i, i < n → (F i = none ↔ i ∉ plc r n ks) := fun i hi => by rw [f1 i hi]; exact fcA_none
 have hpl := plc_len r n ks
 refine sq6 fun t1 t2 t3 t4 t5 t6 DD a1 a2 a3 a4 a5 a6 aD => ?_
 subst a1
 refine ⟨_, rfl, p, rfl, ⟨_, SqL.of hp0⟩, fun D hD => comp_list (xs := ks.map V.int) (hmV r n) (SqL.of hp0) hD (by rw [List.length_map]; omega) (fun x ys Q' hx hQ => ?_) ?_⟩
 ·obtain ⟨k, hk, rfl⟩ := List.mem_map.mp hx
  refine ⟨_, rfl, _, rfl, _, rfl, v, r, k, n, rfl, ra.same (Same.new hD _), rk, hb k hk, ⟨by omega, by omega⟩, ?_⟩
  rw [hm_eq rk (by omega)]
  exact hQ
 rw [hmV_map]
 have sD := Same.new hD (.lst (nats (hms r n ks)))
 refine ⟨_, rfl, D, n, hms r n ks, rfl, upd_same, fun x hx => ?_, by unfold hms; rw [List.length_map]; exact hkl, by omega, fun la H1 s1 hla => ?_⟩
 ·obtain ⟨k, _, rfl⟩ := List.mem_map.mp hx
  exact hh k
 have hla : H1 la = some (.lst (blT n (plc r n ks))) := hla
 have s01 := sD.trans s1
 clear sD s1
 obtain ⟨e, he, hne, hix⟩ := blT_idx (n := n) (acc := plc r n ks) (by omega)
 have hFe : F e = none := (hN e he).mpr hne
 have LL := ok.lay.lin he hFe hh
 show tSeq t2 _ _ _ _
 subst a2
 refine ⟨_, rfl, .inl ⟨rfl, _, SqL.of hla⟩, la, _, .bl false, e, rfl, rfl, hla, blT_flat _ _, rfl, hix, _, _, rfl, rfl, _, rfl, _, _, rfl, rfl, posJ (by omega), ?_⟩
 have ra1 := ra.same s01
 have hp1 := s01 _ _ hp0
 show tSeq t3 _ _ _ _
 subst a3
 refine ⟨_, rfl, p, rfl, ⟨_, SqL.of hp1⟩, fun D2 hD2 => comp_listG (xs := ks.map V.int) (fun i w H => ∃ x, w = .ref x ∧ ∃ k, ks[i]? = some k ∧ H x = some (.tup [.int (off n e (hm r n k) : Nat), .int k])) (SqL.of hp1) hD2 (by rw [List.length_map]; omega) (fun i w H H' s ⟨x, e1, k, e2, e3⟩ => ⟨x, e1, k, e2, s _ _ e3⟩) (fun i w H ys o hD ⟨x, e1, k, e2, e3⟩ => ⟨x, e1, k, e2, by rw [upd_ne (fun z => by rw [z, hD] at e3; cases e3)]; exact e3⟩) ?_ ?_⟩
 ·intro i x H2 Q' hx sm hQ
  obtain ⟨k, hk, rfl⟩ := ints_at hx
  refine ⟨_, rfl, _, rfl, _, rfl, v, r, k, n, rfl, ra1.same sm, rk, hb k (List.mem_of_getElem? hk), ⟨by omega, by omega⟩, _, rfl, _, _, rfl, rfl, _, rfl, _, _, rfl, rfl, posJ (by omega), _, rfl, small (n := 2) (by decide), fun pt hpt => ?_⟩
  refine hQ _ _ (Same.new hpt _) ⟨pt, rfl, k, hk, ?_⟩
  rw [upd_same, hm_eq rk (by omega)]
  show some (HO.tup [V.int ((((hm r n k : Nat) : Int) - ((e : Int) + 1) % (n : Int)) % (n : Int)), V.int k]) = _
  rw [off_int he (hh k)]
 intro H2 ys s2 hys hyl hR
 obtain ⟨rs, rfl, hrs⟩ := refs_of hR
 rw [List.length_map, List.length_map] at hyl
 refine nilI ⟨D2, rs, rfl, SqL.of hys, fun x hx => ?_, by omega, fun lo rs' hlo pm pw => ?_⟩
 ·obtain ⟨k, hk⟩ := List.getElem?_of_mem hx
  obtain ⟨y, _, e1⟩ := hrs k x hk
  exact ⟨_, _, e1⟩
 obtain ⟨o1, o2, o3⟩ := ord_of (o := fun k => off n e (hm r n k)) nd hyl hrs pm pw
 have s02 := s01.trans s2
 have hord := seq_ord (m := n) LL o2 fun x => by rw [o3.mem_iff, ← hF, ← has_lin he]; exact ⟨fun ⟨i, h⟩ => ⟨i, (lin_lt h).1, h⟩, fun ⟨i, _, h⟩ => ⟨i, h⟩⟩
 have hla2 := s2 _ _ hla
 show tSeq t4 _ _ _ _
 subst a4
 refine ⟨(show 1 ≤ sizeLine by decide), fun l0 hl0 => ⟨_, rfl, l0, n, _, rfl, rfl, upd_same, by omega, by omega, ?_, fun L hL => ?_⟩⟩
 ·rw [Int.toNat_natCast]; simp only [List.length_cons, List.length_nil]; omega
 rw [Int.toNat_natCast, rep_nil]
 have sl := Same.new hlo (.lst (rs'.map V.ref))
 have sl0 := sl.trans (Same.new hl0 (.lst [.non]))
 have hLn := sl0.free hL
 have sL := sl0.trans (Same.new hL (.lst (ringL n fun _ => none)))
 have hloL : lo ≠ L := fun w => by rw [← w, Same.new hl0 _ _ _ upd_same] at hL; cases hL
 have hr2 : rs'.length < n := by rw [pm.length_eq, hyl]; exact hkl
 show tSeq t5 _ _ _ _
 subst a5
 refine ⟨_, rfl, n, rfl, by omega, by omega, ?_⟩
 rw [Int.toNat_natCast]
 refine for_range (n := n) (InvLay (fun x7 x8 => [some v, some (.int n), some (.ref p), some (.ref la), some (.int (((e : Int) + 1) % (n : Int))), some (.ref lo), some (.ref L), x7, x8]) H2 lo L rs' n e F) ⟨none, none, rfl, sL, ?_, ?_⟩ ?_ ?_
 ·rw [upd_ne hloL]
  exact Same.new hl0 _ _ _ upd_same
 ·rw [upd_same]
  rfl
 ·rintro j σ' H' hj ⟨x7, x8, rfl, sm, h1, h2⟩
  have hq := rho_lt he hj
  have el : lin n e F j = F (rho n e j) := lin_at hj
  show tSeq _ _ _ _ _
  refine seq_cut (fun σ' H'' => σ' = [some v, some (.int n), some (.ref p), some (.ref la), some (.int (((e : Int) + 1) % (n : Int))), some (.ref lo), some (.ref L), some (.int (0 + (j : Int))), some (.int (rho n e j : Nat))] ∧ H'' = H') (fun U hU => ⟨_, rfl, _, rfl, _, _, rfl, rfl, _, rfl, _, _, rfl, rfl, posJ (by omega), hU _ _ ⟨by rw [← rho_int he hj]; rfl, rfl⟩⟩) ?_
  rintro σ' H'' ⟨rfl, rfl⟩
  refine ⟨_, rfl, _, rfl, la, _, _, .bl (S40.mem (rho n e j) (plc r n ks)), rfl, rfl, SqL.of (sm _ _ hla2), atI_nat (blT_at hq), _, rfl, ite2 (fun c => ?_) fun c => ?_⟩
  ·obtain ⟨k, hk⟩ : ∃ k, F (rho n e j) = some k := by
    cases hk : F (rho n e j) with
    | some k => exact ⟨k, rfl⟩
    | none => exact absurd (S40.mem_iff.mp c) ((hN _ hq).mp hk)
   obtain ⟨n1', n2'⟩ := seqN_next (f := lin n e F) hj (by rw [el, hk])
   rw [hord, List.getElem?_map] at n1'
   obtain ⟨x, hx, ex⟩ := Option.map_eq_some_iff.mp n1'
   have hxl := (List.getElem?_eq_some_iff.mp hx).1
   have hx2 := o1 x (List.mem_of_getElem? hx)
   rw [ex] at hx2
   have hxlo : x ≠ lo := fun w => by rw [w, hlo] at hx2; cases hx2
   have edr : rs'.drop (seqN (lin n e F) j).length = x :: rs'.drop ((seqN (lin n e F) j).length + 1) := by
    rw [List.drop_eq_getElem_cons hxl]
    congr 1
    exact (List.getElem?_eq_some_iff.mp hx).2
   have edr2 : rs'.drop ((seqN (lin n e F) j).length + 1) = rs'.drop (seqN (lin n e F) (j + 1)).length := by
    rw [show (seqN (lin n e F) (j + 1)).length = (seqN (lin n e F) j).length + 1 by rw [seqN_succ, el, hk]; simp]
   rw [edr, edr2, List.map_cons] at h1
   have h2' : upd H'' lo (.lst ((rs'.drop (seqN (lin n e F) (j + 1)).length).map V.ref)) L = some (.lst (ringL n fun i => if off n e i < j then F i else none)) := by rw [upd_ne hloL.symm]; exact h2
   refine ⟨_, rfl, .inl ⟨rfl, _, SqL.of h1⟩, lo, _, 0, 0, .ref x, rfl, rfl, h1, by decide, by decide, by rw [List.length_cons]; exact seqIndex_of (by decide) (by omega), rfl, x, _, _, .int k, rfl, rfl, SqT.of (by rw [upd_ne hxlo]; exact sm _ _ hx2), atI_nat (j := 1) rfl, ?_⟩
   refine ⟨_, rfl, _, rfl, L, _, _, rho n e j, rfl, rfl, h2', ixN_nat (by rw [ringL_len]; exact hq), ?_⟩
   refine ⟨_, _, rfl, (sm.upd hlo h1 _).upd hLn h2' _, by rw [upd_ne hloL, upd_same]; rfl, ?_⟩
   rw [upd_same]
   refine congrArg (fun z => some (HO.lst z)) ((ringL_set (v := some k) hq).trans (ringL_congr fun i hi => ?_))
   by_cases ci : i = rho n e j
   ·subst ci
    rw [if_pos rfl, off_rho he hj, if_pos (by omega), hk]
   ·rw [if_neg ci]
    have : off n e i ≠ j := fun w => ci (by rw [← w, rho_off he hi])
    by_cases c2 : off n e i < j
    ·rw [if_pos c2, if_pos (by omega)]
    ·rw [if_neg c2, if_neg (by omega)]
  ·have hk : F (rho n e j) = none := (hN _ hq).mpr fun z => c (S40.mem_iff.mpr z)
   have e3 : seqN (lin n e F) (j + 1) = seqN (lin n e F) j := by rw [seqN_succ, el, hk]; simp
   refine ⟨_, _, rfl, sm, by rw [e3]; exact h1, ?_⟩
   rw [h2]
   refine congrArg (fun z => some (HO.lst z)) (ringL_congr fun i hi => ?_)
   by_cases ci : i = rho n e j
   ·subst ci
    rw [off_rho he hj, if_neg (by omega), if_pos (by omega), hk]
   ·have : off n e i ≠ j := fun w => ci (by rw [← w, rho_off he hi])
    by_cases c2 : off n e i < j
    ·rw [if_pos c2, if_pos (by omega)]
    ·rw [if_neg c2, if_neg (by omega)]
 ·rintro σ' H' ⟨x7, x8, rfl, sm, h1, h2⟩
  subst a6 aD
  refine ⟨_, rfl, q L H' (s02.trans sm) ?_⟩
  rw [h2, ringL_congr fun i hi => if_pos (off_lt he hi)]
end S60
namespace S60
open PySem L2 SC PyProof.Rows S40 Ly Gw
theorem sc__law_told : FnScope ["_law_table", "_law_way", "_law_key", "_law_e"] ["_law_table", "_law_way", "_law_key"] (defScope (top 55)) := ⟨rfl, rfl, rfl, by decide +kernel, rfl, by decide +kernel, by decide +kernel⟩
theorem v__law_told : Vs ["_law_table", "_law_way", "_law_key", "_law_e"] (defScope (top 55)) := Vs.of (by decide +kernel)
theorem l__law_told : Ls ["_law_table", "_law_way", "_law_key", "_law_e"] (defScope (top 55)) := Ls.of sc__law_told.nd (by decide +kernel)
theorem g__law_told : Gs ["StrewError", "_law_word"] (defScope (top 55)) := Gs.of (by decide +kernel)
theorem ok__law_told {P : Program} {w : World} {K : PySem.W.Frag} {mg : Str → Option Value} {base : Heap} {f : Addr} {fd : FuncData} {cl : CN → Addr} (F : Fun K "_law_told" "_law_told" (top 55) f fd) (T : Tx K mg cl) (O_Growing_put : OwnM P w K mg base true 8 (cl .Growing) "put" ["self", "key"] (spGDeed (cl .Growing) (cl .BadKey) Gw.putS ninB)) (O_Growing_drop : OwnM P w K mg base true 8 (cl .Growing) "drop" ["self", "key"] (spGDeed (cl .Growing) (cl .BadKey) Gw.dropS inB)) (O_Growing_has : OwnM P w K mg base true 8 (cl .Growing) "has" ["self", "key"] (spGDeed (cl .Growing) (cl .BadKey) hasS inB)) (O__law_word : Own P w K mg base false 1 "_law_word" ["_law_e"] (spWord K cl)) :
  FnOk P w K mg base (CX1 P w) true 9 f fd ["_law_table", "_law_way", "_law_key"] (spToldG (cl .Growing)) := by
 have S := sc__law_told
 have Vv := v__law_told
 have Lo := l__law_told
 have Gg := g__law_told
 refine F.ok S (fun vs H Q E h => ?_) (fun cdv A outer s H vs Q E hx hcx hh hr D h => ?_)
 ·obtain ⟨t, Ln, oL, r, st, s, w, kv, T, rfl, _⟩ := h; rfl
 obtain ⟨t, Ln, oL, r, st, g, w, kv, Tk, rfl, hw, gf, kk, q1, q2⟩ := h
 have h0 := hcx rfl
 refine ⟨_, (pss_one (tryx (j := 0) (i := 3) Gg Lo D h0 (fun E1 pn => (pss_cons (ps_if (pt_cmpR op_eq (vn Vv 1) pe_int (nomark _)) (pss_one (ps_ret (cMe O_Growing_put T.clGrowing (hr.mono (by decide)) passX (vn Vv 0) (pa_cons (vn Vv 2) pa_nil)))) pss_nil)
  (pss_cons (ps_if (pt_cmpR op_eq (vn Vv 1) pe_int (nomark _)) (pss_one (ps_ret (cMe O_Growing_drop T.clGrowing (hr.mono (by decide)) passX (vn Vv 0) (pa_cons (vn Vv 2) pa_nil)))) pss_nil)
  (pss_one (ps_ret (cMe O_Growing_has T.clGrowing (hr.mono (by decide)) passX (vn Vv 0) (pa_cons (vn Vv 2) pa_nil))))))) T.mStrewError (fun a o pn => (pss_one (ps_ret (cOwn (i := 1) Gg O__law_word (markR (hr.mono (by decide))) passN (pa_cons (vn Vv 3) pa_nil))))))), ?_⟩
 obtain ⟨dx, v, ht, ra⟩ := gf.at_.obj
 refine ⟨fun cls _ H1 => Same H H1 ∧ ∃ j C, cls = .ref C ∧ Wd K cl C j ∧ j < 5 ∧ ∀ H', Same H H' → Q (.str (nm j)) H', ?_, fun cls H1 ⟨s1, j, C, e1, W, hj, e2⟩ => ?_⟩
 ·have bk : wholeV kv 0 999999 = false → (Same H H ∧ ∃ j C, Value.ref (cl .BadKey) = Value.ref C ∧ Wd K cl C j ∧ j < 5 ∧ ∀ H', Same H H' → Q (.str (nm j)) H') := fun z => ⟨Same.refl H, 1, _, rfl, T.wd1, by decide, q1 z⟩
  show tSeq _ _ _ _ _
  refine ⟨_, rfl, rfl, _, rfl, ite2 (fun c => ?_) fun c => ?_⟩
  ·have hw0 : w = 0 := by have := V.int.inj (of_decide_eq_true c); omega
   subst hw0
   exact ⟨_, rfl, t, dx, _, rfl, ht, rfl, _, rfl, t, Ln, oL, r, st, g, kv, Tk, rfl, gf, kk, bk, fun k ek kb => ⟨(q2 k ek kb).1, fun Ln' oL' H' gf' f' => (q2 k ek kb).2 Ln' oL' H' gf' f'⟩⟩
  have c0 : w ≠ 0 := fun z => c (decide_eq_true (by rw [z]; rfl))
  refine ⟨_, rfl, rfl, _, rfl, ite2 (fun c => ?_) fun c => ?_⟩
  ·have hw1 : w = 1 := by have := V.int.inj (of_decide_eq_true c); omega
   subst hw1
   exact ⟨_, rfl, t, dx, _, rfl, ht, rfl, _, rfl, t, Ln, oL, r, st, g, kv, Tk, rfl, gf, kk, bk, fun k ek kb => ⟨(q2 k ek kb).1, fun Ln' oL' H' gf' f' => (q2 k ek kb).2 Ln' oL' H' gf' f'⟩⟩
  have c1 : w ≠ 1 := fun z => c (decide_eq_true (by rw [z]; rfl))
  have hw2 : w = 2 := by omega
  subst hw2
  exact ⟨_, rfl, t, dx, _, rfl, ht, rfl, _, rfl, t, Ln, oL, r, st, g, kv, Tk, rfl, gf, kk, bk, fun k ek kb => ⟨(q2 k ek kb).1, fun Ln' oL' H' gf' f' => (q2 k ek kb).2 Ln' oL' H' gf' f'⟩⟩
 ·refine ⟨C, e1, W.e, fun a o ha ho => ?_⟩
  exact ⟨_, rfl, a, o, C, j, rfl, upd_same, ho, W, hj, fun H' s2 => e2 H' (s1.trans ((Same.new ha _).trans s2))⟩
end S60
namespace S60
open PySem L2 SC PyProof.Rows S40 Ly Gw
theorem sc__law_tried : FnScope ["_law_rule_here", "_law_size", "_law_step", "_law_e"] ["_law_rule_here", "_law_size", "_law_step"] (defScope (top 56)) := ⟨rfl, rfl, rfl, by decide +kernel, rfl, by decide +kernel, by decide +kernel⟩
theorem v__law_tried : Vs ["_law_rule_here", "_law_size", "_law_step", "_law_e"] (defScope (top 56)) := Vs.of (by decide +kernel)
theorem l__law_tried : Ls ["_law_rule_here", "_law_size", "_law_step", "_law_e"] (defScope (top 56)) := Ls.of sc__law_tried.nd (by decide +kernel)
theorem g__law_tried : Gs ["StrewError", "Growing", "_law_word"] (defScope (top 56)) := Gs.of (by decide +kernel)
theorem ok__law_tried {P : Program} {w : World} {K : PySem.W.Frag} {mg : Str → Option Value} {base : Heap} {f : Addr} {fd : FuncData} {cl : CN → Addr} (F : Fun K "_law_tried" "_law_tried" (top 56) f fd) (T : Tx K mg cl) (O_Growing___init__ : OwnC P w K mg base true 5 (cl .Growing) ["self", "rule", "size", "step"] (spGNew (cl .Growing) (cl .BadRule) (cl .BadSize))) (O__law_word : Own P w K mg base false 1 "_law_word" ["_law_e"] (spWord K cl)) :
  FnOk P w K mg base (CX1 P w) true 7 f fd ["_law_rule_here", "_law_size", "_law_step"] (spTriedG) := by
 have S := sc__law_tried
 have Vv := v__law_tried
 have Lo := l__law_tried
 have Gg := g__law_tried
 refine F.ok S (fun vs H Q E h => ?_) (fun cdv A outer s H vs Q E hx hcx hh hr D h => ?_)
 ·obtain ⟨v, z, w, T, U, rfl, _⟩ := h; rfl
 obtain ⟨v, z, w, Tz, Tw, rfl, kz, kw, q⟩ := h
 have h0 := hcx rfl
 refine ⟨_, (pss_one (tryx (j := 0) (i := 3) Gg Lo D h0 (fun E1 pn => (pss_cons (ps_expr (cMk (i := 1) Gg O_Growing___init__ T.mGrowing (hr.mono (by decide)) passX (pa_cons (vn Vv 0) (pa_cons (vn Vv 1) (pa_cons (vn Vv 2) pa_nil)))))
  (pss_one (ps_ret pe_str)))) T.mStrewError (fun a o pn => (pss_one (ps_ret (cOwn (i := 2) Gg O__law_word (markR (hr.mono (by decide))) passN (pa_cons (vn Vv 3) pa_nil))))))), ?_⟩
 refine ⟨fun cls _ H1 => Same H H1 ∧ ∃ j C, cls = .ref C ∧ Wd K cl C j ∧ j < 5 ∧ ∀ H', Same H H' → Q (.str (nm j)) H', ?_, fun cls H1 ⟨s1, j, C, e1, W, hj, e2⟩ => ?_⟩
 ·refine ⟨_, rfl, _, rfl, _, rfl, fun x dx hx0 hdx hne => ?_⟩
  have sx : Same H (upd (upd H dx (.own x)) x (.ins (cl .Growing) dx [])) := (Same.new hdx _).trans (Same.new (by rw [upd_ne hne.symm]; exact hx0) _)
  rcases q with ⟨rfl, q⟩ | ⟨r, ra, rk, hzw, q⟩
  ·exact ⟨x, dx, .non, z, w, Tz, Tw, rfl, upd_same, plain_non.1, kz.same sx, kw.same sx, fun _ H' s' => ⟨sx.trans s', 0, _, rfl, T.wd0, by decide, q⟩, (fun w => tf w plain_non.2), fun r n st ra => (rl_non ra).elim⟩
  ·have ra6 := ra.same sx
   refine ⟨x, dx, v, z, w, Tz, Tw, rfl, upd_same, ra6.plain rk, kz.same sx, kw.same sx, fun w => tf (ra6.rule rk) w, fun _ _ H' s' => ⟨sx.trans s', 2, _, rfl, T.wd2, by decide, q⟩, fun r' n' st' _ _ en a b ew a2 b2 => ?_⟩
   subst en ew
   rcases hzw with hzw | hzw
   ·exact tf (wholeV_int (by omega) (by omega)) hzw
   ·exact tf (wholeV_int (by omega) (by omega)) hzw
 ·refine ⟨C, e1, W.e, fun a o ha ho => ?_⟩
  exact ⟨_, rfl, a, o, C, j, rfl, upd_same, ho, W, hj, fun H' s2 => e2 H' (s1.trans ((Same.new ha _).trans s2))⟩
end S60
namespace S60
open PySem L2 SC PyProof.Rows S40 Ly Gw
theorem sc__law_moved : FnScope ["_law_own", "_law_key"] ["_law_own"] (defScope (top 57)) := ⟨rfl, rfl, rfl, by decide +kernel, rfl, by decide +kernel, by decide +kernel⟩
theorem v__law_moved : Vs ["_law_own", "_law_key"] (defScope (top 57)) := Vs.of (by decide +kernel)
theorem l__law_moved : Ls ["_law_own", "_law_key"] (defScope (top 57)) := Ls.of sc__law_moved.nd (by decide +kernel)
theorem g__law_moved : Gs ["sorted"] (defScope (top 57)) := Gs.of (by decide +kernel)
theorem ok__law_moved {P : Program} {w : World} {K : PySem.W.Frag} {mg : Str → Option Value} {base : Heap} {f : Addr} {fd : FuncData} {cl : CN → Addr} (F : Fun K "_law_moved" "_law_moved" (top 57) f fd) (T : Tx K mg cl) :
  FnOk P w K mg base (CX1 P w) true 1 f fd ["_law_own"] (spLMoved) := by
 have S := sc__law_moved
 have Vv := v__law_moved
 have Lo := l__law_moved
 have Gg := g__law_moved
 refine F.ok S (fun vs H Q E h => ?_) (fun cdv A outer s H vs Q E hx hcx hh hr D h => ?_)
 ·obtain ⟨d, lo, ln, st, s, rfl, _⟩ := h; rfl
 obtain ⟨d, lo, ln, st, g, rfl, ow, nd, ht40, hst, q⟩ := h
 have hp := passesXE (E := E) D
 refine ⟨_, (pss_one (ps_for hp (pi_list (pe_slice sl_list (cB (i := 0) Gg (call_sorted) T.nsorted bt_sorted (pa_cons (pe_dget (hu_of hr) (vn Vv 0) pe_str (fun _ _ => rfl)) pa_nil)) po_none (po_some (pe_dget (hu_of hr) (vn Vv 0) pe_str (fun _ _ => rfl))))) (tgt_v (i := 1) Lo)
  (pss_cons (ps_expr (pe_bm PySem.F.plainAttrs_list PySem.F.slot_list_remove PySem.F.type_list_remove mt_remove (pe_dget (hu_of hr) (vn Vv 0) pe_str (fun _ _ => rfl)) (pa_cons (vn Vv 1) pa_nil)))
  (pss_cons (ps_expr (pe_bm PySem.F.plainAttrs_list PySem.F.slot_list_append PySem.F.type_list_append mt_append (pe_dget (hu_of hr) (vn Vv 0) pe_str (fun _ _ => rfl)) (pa_cons (vn Vv 1) pa_nil)))
  (pss_one (ps_dput (hu_of hr) (vn Vv 0) pe_str (pe_op op_add (pe_dget (hu_of hr) (vn Vv 0) pe_str (fun _ _ => rfl)) pe_int) rfl)))))), ?_⟩
 have hz : 100000 < sizeLine := by decide
 have htot : g.ko.length + g.kn.length ≤ 40 := ht40
 refine ⟨_, rfl, d, .ref lo, rfl, ow.older, lo, g.ko, rfl, SqL.of ow.hlo, by omega, fun l ks hl pm pw => ?_⟩
 have es := srt_of pm pw
 subst es
 have s1 := Same.new hl (.lst ((srt g.ko).map V.int))
 have ow1 := ow.same s1
 have hl1 : upd H l (.lst ((srt g.ko).map V.int)) l = some (.lst ((srt g.ko).map V.int)) := upd_same
 have hnin : ∀ b, H b = none → b ∉ [d, lo, ln] := fun b hb z => by
  simp only [List.mem_cons, List.not_mem_nil, or_false] at z
  rcases z with rfl | rfl | rfl
  ·rw [ow.dd] at hb; cases hb
  ·rw [ow.hlo] at hb; cases hb
  ·rw [ow.hln] at hb; cases hb
 generalize upd H l (.lst ((srt g.ko).map V.int)) = H1 at s1 ow1 hl1 ⊢
 refine ⟨_, rfl, d, .int st, rfl, ow1.step, (st : Int), rfl, l, _, rfl, SqL.of hl1, fun p hp => ?_⟩
 rw [cut_take]
 have s2 := Same.new hp (.lst (((srt g.ko).take st).map V.int))
 have hp2 : upd H1 p (.lst (((srt g.ko).take st).map V.int)) p = some (.lst ((mvs g st).map V.int)) := upd_same
 have hpm := hnin p (s1.free hp)
 generalize upd H1 p (.lst (((srt g.ko).take st).map V.int)) = H2 at s2 hp2 ⊢
 refine ⟨p, rfl, ⟨_, SqL.of hp2⟩, for_list (xs := (mvs g st).map V.int) (InvLm H2 d lo ln st g (mvs g st)) ⟨none, rfl, by rw [gone_zero]; exact ow1.same s2, Fr.same _ (Same.refl _)⟩ (fun j σ' H' _ ⟨_, _, _, f⟩ => SqL.of (fr_keep f hpm hp2)) ?_ ?_⟩
 ·rintro j x σ H3 hx ⟨x0, rfl, ow3, f3⟩
  obtain ⟨k, hk, rfl⟩ := ints_at hx
  have hj : j < (mvs g st).length := (List.getElem?_eq_some_iff.mp hk).1
  have hmem := gone_mem (mvs_nd (st := st) nd) mvs_mem hk
  obtain ⟨l1, l2⟩ := gone_len (s := g) (mvs_nd (st := st) nd) mvs_mem (Nat.le_of_lt hj)
  have est := gone_step (s := g) hk
  have en : (goneS g (mvs g st) j).n = g.n := rfl
  generalize goneS g (mvs g st) j = gj at ow3 hmem est l1 l2 en
  obtain ⟨hd1, hd2⟩ := ow3.dl
  show tSeq _ _ _ _ _
  refine ⟨_, rfl, d, .ref lo, rfl, ow3.older, .inl ⟨rfl, _, SqL.of ow3.hlo⟩, _, rfl, lo, gj.ko, k, rfl, rfl, ow3.hlo, hmem, ?_⟩
  have dd4 : upd H3 lo (.lst ((gj.ko.erase k).map V.int)) d = some (.dK (ownD lo ln gj.n st gj.g)) := by rw [upd_ne hd1.symm]; exact ow3.dd
  have lo4 : upd H3 lo (.lst ((gj.ko.erase k).map V.int)) lo = some (.lst ((gj.ko.erase k).map V.int)) := upd_same
  have ln4 : upd H3 lo (.lst ((gj.ko.erase k).map V.int)) ln = some (.lst (gj.kn.map V.int)) := by rw [upd_ne ow3.ne.symm]; exact ow3.hln
  have f4 := f3.trans (Fr.put (as := [d, lo, ln]) (b := lo) (by simp) (.lst ((gj.ko.erase k).map V.int)))
  generalize upd H3 lo (.lst ((gj.ko.erase k).map V.int)) = H4 at dd4 lo4 ln4 f4 ⊢
  have g4 : DGet H4 d (.str "newer") (some (.ref ln)) := .inl ⟨_, .inr "newer", .inl dd4, rfl, rfl⟩
  refine ⟨_, rfl, d, .ref ln, rfl, g4, .inl ⟨rfl, _, SqL.of ln4⟩, _, rfl, ln, _, _, rfl, rfl, ln4, by rw [List.length_map]; omega, ?_⟩
  have dd5 : upd H4 ln (.lst (gj.kn.map V.int ++ [.int k])) d = some (.dK (ownD lo ln gj.n st gj.g)) := by rw [upd_ne hd2.symm]; exact dd4
  have lo5 : upd H4 ln (.lst (gj.kn.map V.int ++ [.int k])) lo = some (.lst ((gj.ko.erase k).map V.int)) := by rw [upd_ne ow3.ne]; exact lo4
  have ln5 : upd H4 ln (.lst (gj.kn.map V.int ++ [.int k])) ln = some (.lst ((gj.kn ++ [k]).map V.int)) := by rw [upd_same, List.map_append]; rfl
  have f5 := f4.trans (Fr.put (as := [d, lo, ln]) (b := ln) (by simp) (.lst (gj.kn.map V.int ++ [.int k])))
  generalize upd H4 ln (.lst (gj.kn.map V.int ++ [.int k])) = H5 at dd5 lo5 ln5 f5 ⊢
  have g5 : DGet H5 d (.str "gone") (some (.int gj.g)) := .inl ⟨_, .inr "gone", .inl dd5, rfl, rfl⟩
  refine ⟨_, rfl, d, .int gj.g, rfl, g5, _, _, rfl, rfl, _, rfl, d, _, rfl, own_put (kvs' := ownD lo ln gj.n st (gj.g + 1)) dd5 (show 5 < sizeLine by decide) rfl, ?_⟩
  refine ⟨_, rfl, ?_, f5.trans (Fr.put (as := [d, lo, ln]) (b := d) (by simp) _)⟩
  rw [est]
  exact ⟨by rw [← en]; exact upd_same, by rw [upd_ne hd1]; exact lo5, by rw [upd_ne hd2]; exact ln5, ow3.ne⟩
 ·rintro σ' H' ⟨x, rfl, ow', f⟩
  rw [List.length_map] at ow'
  exact q H' ow' ((Fr.same _ (s1.trans s2)).trans f)
end S60
namespace S60
open PySem L2 SC PyProof.Rows S40 Ly Gw
theorem sc__law_done : FnScope ["_law_own", "_law_way", "_law_key", "_law_is_there"] ["_law_own", "_law_way", "_law_key"] (defScope (top 58)) := ⟨rfl, rfl, rfl, by decide +kernel, rfl, by decide +kernel, by decide +kernel⟩
theorem v__law_done : Vs ["_law_own", "_law_way", "_law_key", "_law_is_there"] (defScope (top 58)) := Vs.of (by decide +kernel)
theorem l__law_done : Ls ["_law_own", "_law_way", "_law_key", "_law_is_there"] (defScope (top 58)) := Ls.of sc__law_done.nd (by decide +kernel)
theorem g__law_done : Gs ["len", "_law_moved"] (defScope (top 58)) := Gs.of (by decide +kernel)
theorem ok__law_done {P : Program} {w : World} {K : PySem.W.Frag} {mg : Str → Option Value} {base : Heap} {f : Addr} {fd : FuncData} {cl : CN → Addr} (F : Fun K "_law_done" "_law_done" (top 58) f fd) (T : Tx K mg cl) (O__law_moved : Own P w K mg base true 1 "_law_moved" ["_law_own"] (spLMoved)) :
  FnOk P w K mg base (CX1 P w) true 2 f fd ["_law_own", "_law_way", "_law_key"] (spLDone) := by
 have S := sc__law_done
 have Vv := v__law_done
 have Lo := l__law_done
 have Gg := g__law_done
 refine F.ok S (fun vs H Q E h => ?_) (fun cdv A outer s H vs Q E hx hcx hh hr D h => ?_)
 ·obtain ⟨d, lo, ln, st, s, w, k, rfl, _⟩ := h; rfl
 obtain ⟨d, lo, ln, st, g, w, k, rfl, hw, ow, fin, ht40, hin40, hst, q⟩ := h
 refine ⟨_, (pss_cons (set_v (i := 3) Lo (pe_cmpR op_in_seq (vn Vv 2) (pe_op op_cat (pe_dget (hu_of hr) (vn Vv 0) pe_str (fun _ _ => rfl)) (pe_dget (hu_of hr) (vn Vv 0) pe_str (fun _ _ => rfl))) (by with_unfolding_all rfl)))
  (pss_cons (ps_if (PW.pt (pw_and (pt_cmpR op_eq (vn Vv 1) pe_int (nomark _)) (pw_and1 (pt_not (pt_val (vn Vv 3)))))) (pss_cons (ps_if (pt_cmpR op_gt (pe_op op_mulA pe_int (pe_op op_add (pe_op op_add (cB (i := 0) Gg (call_len_seq) T.nlen bt_len (pa_cons (pe_dget (hu_of hr) (vn Vv 0) pe_str (fun _ _ => rfl)) pa_nil)) (cB (i := 0) Gg (call_len_seq) T.nlen bt_len (pa_cons (pe_dget (hu_of hr) (vn Vv 0) pe_str (fun _ _ => rfl)) pa_nil))) pe_int)) (pe_op op_mulA pe_int (pe_dget (hu_of hr) (vn Vv 0) pe_str (fun _ _ => rfl))) (nomark _)) (pss_cons (ps_if (pt_cmpR (op_neL hr.units0) (pe_dget (hu_of hr) (vn Vv 0) pe_str (fun _ _ => rfl)) (pe_lst pa_nil) (nomark _)) (pss_one (ps_ret pe_str)) pss_nil)
  (pss_cons (ps_dput (hu_of hr) (vn Vv 0) pe_str (pe_dget (hu_of hr) (vn Vv 0) pe_str (fun _ _ => rfl)) rfl)
  (pss_cons (ps_dput (hu_of hr) (vn Vv 0) pe_str (pe_lst pa_nil) rfl)
  (pss_one (ps_dput (hu_of hr) (vn Vv 0) pe_str (pe_op op_mulA pe_int (pe_dget (hu_of hr) (vn Vv 0) pe_str (fun _ _ => rfl))) rfl))))) pss_nil)
  (pss_one (ps_expr (pe_bm PySem.F.plainAttrs_list PySem.F.slot_list_append PySem.F.type_list_append mt_append (pe_dget (hu_of hr) (vn Vv 0) pe_str (fun _ _ => rfl)) (pa_cons (vn Vv 2) pa_nil))))) pss_nil)
  (pss_cons (ps_if (PW.pt (pw_and (pt_cmpR op_eq (vn Vv 1) pe_int (nomark _)) (pw_and1 (pt_cmpR op_in_seq (vn Vv 2) (pe_dget (hu_of hr) (vn Vv 0) pe_str (fun _ _ => rfl)) (by with_unfolding_all rfl))))) (pss_one (ps_expr (pe_bm PySem.F.plainAttrs_list PySem.F.slot_list_remove PySem.F.type_list_remove mt_remove (pe_dget (hu_of hr) (vn Vv 0) pe_str (fun _ _ => rfl)) (pa_cons (vn Vv 2) pa_nil)))) (pss_one (ps_if (PW.pt (pw_and (pt_cmpR op_eq (vn Vv 1) pe_int (nomark _)) (pw_and1 (pt_val (vn Vv 3))))) (pss_one (ps_expr (pe_bm PySem.F.plainAttrs_list PySem.F.slot_list_remove PySem.F.type_list_remove mt_remove (pe_dget (hu_of hr) (vn Vv 0) pe_str (fun _ _ => rfl)) (pa_cons (vn Vv 2) pa_nil)))) pss_nil)))
  (pss_cons (ps_expr (cOwn (i := 1) Gg O__law_moved (hr.mono (by decide)) passX (pa_cons (vn Vv 0) pa_nil)))
  (pss_one (ps_ret (pe_ifExp (pt_cmpR op_eq (vn Vv 1) pe_int (nomark _)) (pe_not (vn Vv 3)) (vn Vv 3)))))))), ?_⟩
 have hz : 100000 < sizeLine := by decide
 have htot : g.ko.length + g.kn.length ≤ 40 := ht40
 have nd := List.nodup_append.mp fin.nd
 refine sq5 fun t1 t2 t3 t4 t5 DD a1 a2 a3 a4 a5 aD => ?_
 refine seq_cut (fun σ' H' => ∃ b, σ' = [some (.ref d), some (.int w), some (.int k), some (.bl b)] ∧ Same H H' ∧ b = decide (isIn g k)) (fun U hU => ?_) ?_
 ·subst a1
  refine ⟨_, rfl, _, rfl, d, .ref lo, rfl, ow.older, _, rfl, d, .ref ln, rfl, ow.newer, lo, ln, _, _, rfl, rfl, ow.hlo, ow.hln, by rw [List.length_map, List.length_map]; omega, fun p hp => ?_⟩
  rw [← List.map_append]
  refine ⟨p, _, rfl, .inl (SqL.of upd_same), rfl, ints_flat _, ?_⟩
  rw [if_neg Bool.false_ne_true, in_ints]
  refine hU _ _ ⟨_, rfl, Same.new hp _, ?_⟩
  exact decide_eq_decide.mpr (by rw [List.mem_append]; exact Iff.rfl)
 rintro σ' H1 ⟨b, rfl, s1, hb⟩
 have ow1 := ow.same s1
 have no0 : w ≠ 0 → V.int (w : Int) ≠ V.int 0 := fun z z2 => z (by have := V.int.inj z2; omega)
 have no1 : w ≠ 1 → V.int (w : Int) ≠ V.int 1 := fun z z2 => z (by have := V.int.inj z2; omega)
 refine seq_cut (fun σ' H' => ∃ lo2 ln2, σ' = [some (.ref d), some (.int w), some (.int k), some (.bl b)] ∧ OwnAt H' d lo2 ln2 st (if w = 0 then putS g k else g) ∧ Fr H H' [d, lo, ln] [d, lo2, ln2]) (fun U hU => ?_) ?_
 ·subst a2
  by_cases w0 : w = 0
  ·subst w0
   rw [if_pos rfl] at hU
   by_cases hin : isIn g k
   ·have hb' : b = true := by rw [hb, decide_eq_true hin]
    subst hb'
    have e : putS g k = g := if_pos hin
    exact ⟨_, rfl, rfl, _, rfl, iteEq rfl ⟨_, rfl, _, rfl, iteF (hU _ _ ⟨lo, ln, rfl, by rw [e]; exact ow1, Fr.same _ s1⟩)⟩⟩
   ·have hb' : b = false := by rw [hb, decide_eq_false hin]
    subst hb'
    refine ⟨_, rfl, rfl, _, rfl, iteEq rfl ⟨_, rfl, _, rfl, iteT ?_⟩⟩
    have ep : putS g k = ⟨(room g).n, (room g).ko, (room g).kn ++ [k], g.g⟩ := if_neg hin
    show tSeq _ _ _ _ _
    refine seq_cut (fun σ' H' => ∃ lo2 ln2, σ' = [some (.ref d), some (.int (0 : Nat)), some (.int k), some (.bl false)] ∧ OwnAt H' d lo2 ln2 st (room g) ∧ Fr H H' [d, lo, ln] [d, lo2, ln2]) (fun U2 hU2 => ?_) ?_
    ·refine ⟨_, rfl, d, .ref lo, rfl, ow1.older, lo, _, rfl, .inl (SqL.of ow1.hlo), _, rfl, d, .ref ln, rfl, ow1.newer, ln, _, rfl, .inl (SqL.of ow1.hln), _, _, rfl, rfl, _, _, rfl, rfl, _, _, rfl, rfl, mulC (by omega) (by rw [List.length_map, List.length_map]; omega), _, rfl, d, .int g.n, rfl, ow1.size, _, _, rfl, rfl, mulD (by decide) (by decide), _, _, rfl, rfl, _, rfl, ite2 (fun c => ?_) fun c => ?_⟩
     ·have c' := of_decide_eq_true c
      rw [List.length_map, List.length_map] at c'
      have c0 : g.ko = [] := Classical.byContradiction fun z => not_early fin z (by omega)
      have c1 : crowd g := ⟨c0, by rw [c0] at c'; simp only [List.length_nil] at c'; omega⟩
      refine ⟨_, rfl, d, .ref lo, rfl, ow1.older, small (n := 0) (by decide), fun p0 hp0 => ?_⟩
      have s2 := Same.new hp0 (.lst [])
      have hpp : upd H1 p0 (.lst []) p0 = some (.lst []) := upd_same
      have ow2 := ow1.same s2
      generalize upd H1 p0 (.lst []) = H2 at s2 hpp ow2 ⊢
      refine ⟨lo, p0, _, _, rfl, rfl, SqL.of ow2.hlo, SqL.of hpp, ints_flat _, rfl, _, rfl, ?_⟩
      rw [c0]
      refine iteF ?_
      obtain ⟨hd1, hd2⟩ := ow2.dl
      refine ⟨_, rfl, d, .ref ln, rfl, ow2.newer, _, rfl, d, _, rfl, own_put (kvs' := ownD ln ln g.n st g.g) ow2.dd (show 5 < sizeLine by decide) rfl, ?_⟩
      have dd3 : upd H2 d (.dK (ownD ln ln g.n st g.g)) d = some (.dK (ownD ln ln g.n st g.g)) := upd_same
      have ln3 : upd H2 d (.dK (ownD ln ln g.n st g.g)) ln = some (.lst (g.kn.map V.int)) := by rw [upd_ne hd2]; exact ow2.hln
      have f3 : Fr H (upd H2 d (.dK (ownD ln ln g.n st g.g))) [d, lo, ln] [d, lo, ln] := (Fr.same _ (s1.trans s2)).trans (Fr.put (by simp) _)
      generalize upd H2 d (.dK (ownD ln ln g.n st g.g)) = H3 at dd3 ln3 f3 ⊢
      refine ⟨small (n := 0) (by decide), fun p1 hp1 => ?_⟩
      have s4 := Same.new hp1 (.lst [])
      have hp4 : upd H3 p1 (.lst []) p1 = some (.lst (([] : List Int).map V.int)) := upd_same
      have dd4 := s4 _ _ dd3
      have ln4 := s4 _ _ ln3
      have f4 := f3.trans (Fr.same _ s4)
      have hp1n : p1 ≠ d := fun z => by rw [z, dd3] at hp1; cases hp1
      have hp1l : ln ≠ p1 := fun z => by rw [← z, ln3] at hp1; cases hp1
      have hp1H : ∀ Hb, Hid Hb H [d, lo, ln] → Hb p1 = none := fun Hb h => (f3 Hb h).fresh hp1
      generalize upd H3 p1 (.lst []) = H4 at s4 hp4 dd4 ln4 f4 ⊢
      refine ⟨_, rfl, d, _, rfl, own_put (kvs' := ownD ln p1 g.n st g.g) dd4 (show 5 < sizeLine by decide) rfl, ?_⟩
      have dd5 : upd H4 d (.dK (ownD ln p1 g.n st g.g)) d = some (.dK (ownD ln p1 g.n st g.g)) := upd_same
      have ln5 : upd H4 d (.dK (ownD ln p1 g.n st g.g)) ln = some (.lst (g.kn.map V.int)) := by rw [upd_ne hd2]; exact ln4
      have hp5 : upd H4 d (.dK (ownD ln p1 g.n st g.g)) p1 = some (.lst (([] : List Int).map V.int)) := by rw [upd_ne hp1n]; exact hp4
      have f5 := f4.trans (Fr.put (as := [d, lo, ln]) (b := d) (by simp) (.dK (ownD ln p1 g.n st g.g)))
      generalize upd H4 d (.dK (ownD ln p1 g.n st g.g)) = H5 at dd5 ln5 hp5 f5 ⊢
      have g5 : DGet H5 d (.str "size") (some (.int g.n)) := .inl ⟨_, .inr "size", .inl dd5, rfl, rfl⟩
      refine ⟨_, rfl, d, .int g.n, rfl, g5, _, _, rfl, rfl, mulD (by decide) (by decide), _, rfl, d, _, rfl, own_put (kvs' := ownD ln p1 (2 * g.n) st g.g) dd5 (show 5 < sizeLine by decide) rfl, ?_⟩
      refine hU2 _ _ ⟨ln, p1, rfl, ?_, fun Hb h => ?_⟩
      ·rw [room_yes c1]
       exact ⟨upd_same, by rw [upd_ne hd2]; exact ln5, by rw [upd_ne hp1n]; exact hp5, hp1l⟩
      ·have h6 := (f5 Hb h).put (b := d) (by simp) (.dK (ownD ln p1 (2 * g.n) st g.g))
       refine ⟨h6.1, fun x hx => ?_⟩
       simp only [List.mem_cons, List.not_mem_nil, or_false] at hx
       rcases hx with rfl | rfl | rfl
       ·exact h6.2 _ (by simp)
       ·exact h6.2 _ (by simp)
       ·exact hp1H Hb h
     ·have c1 : ¬ crowd g := fun z => c (decide_eq_true (by
       have h1 := z.1
       have h2 := z.2
       rw [List.length_map, List.length_map, h1]
       simp only [List.length_nil]
       omega))
      exact hU2 _ _ ⟨lo, ln, rfl, by rw [room_not c1]; exact ow1, Fr.same _ s1⟩
    rintro σ' H2 ⟨lo2, ln2, rfl, ow2, f2⟩
    obtain ⟨hrk, hrg⟩ := room_kn (s := g)
    obtain ⟨hd1, hd2⟩ := ow2.dl
    refine ⟨_, rfl, d, .ref ln2, rfl, ow2.newer, .inl ⟨rfl, _, SqL.of ow2.hln⟩, _, rfl, ln2, _, _, rfl, rfl, ow2.hln, by rw [List.length_map]; omega, ?_⟩
    refine hU _ _ ⟨lo2, ln2, rfl, ?_, f2.trans (Fr.put (as := [d, lo2, ln2]) (b := ln2) (by simp) _)⟩
    rw [ep]
    exact ⟨by rw [upd_ne hd2.symm, ← hrg]; exact ow2.dd, by rw [upd_ne ow2.ne]; exact ow2.hlo, by rw [upd_same, List.map_append]; rfl, ow2.ne⟩
  ·rw [if_neg w0] at hU
   exact ⟨_, rfl, rfl, _, rfl, iteNe (no0 w0) (iteF (hU _ _ ⟨lo, ln, rfl, ow1, Fr.same _ s1⟩))⟩
 rintro σ' H2 ⟨lo2, ln2, rfl, ow2, f2⟩
 refine seq_cut (fun σ' H' => σ' = [some (.ref d), some (.int w), some (.int k), some (.bl b)] ∧ OwnAt H' d lo2 ln2 st (opS w g k) ∧ Fr H H' [d, lo, ln] [d, lo2, ln2]) (fun U hU => ?_) ?_
 ·subst a3
  by_cases w1 : w = 1
  ·subst w1
   rw [if_neg (by decide)] at ow2
   have eo : opS 1 g k = dropS g k := rfl
   rw [eo] at hU
   obtain ⟨hd1, hd2⟩ := ow2.dl
   by_cases hko : k ∈ g.ko
   ·have e : dropS g k = ⟨g.n, g.ko.erase k, g.kn, g.g⟩ := if_pos hko
    refine ⟨_, rfl, rfl, _, rfl, iteEq rfl ⟨_, rfl, _, rfl, d, .ref lo2, rfl, ow2.older, lo2, _, rfl, .inl (SqL.of ow2.hlo), rfl, ints_flat _, _, rfl, ?_⟩⟩
    rw [if_neg Bool.false_ne_true, in_ints, decide_eq_true hko]
    refine iteT ⟨_, rfl, d, .ref lo2, rfl, ow2.older, .inl ⟨rfl, _, SqL.of ow2.hlo⟩, _, rfl, lo2, g.ko, k, rfl, rfl, ow2.hlo, hko, ?_⟩
    refine hU _ _ ⟨rfl, ?_, f2.trans (Fr.put (as := [d, lo2, ln2]) (b := lo2) (by simp) _)⟩
    rw [e]
    exact ⟨by rw [upd_ne hd1.symm]; exact ow2.dd, upd_same, by rw [upd_ne ow2.ne.symm]; exact ow2.hln, ow2.ne⟩
   ·have e : dropS g k = ⟨g.n, g.ko, g.kn.erase k, g.g⟩ := if_neg hko
    refine ⟨_, rfl, rfl, _, rfl, iteEq rfl ⟨_, rfl, _, rfl, d, .ref lo2, rfl, ow2.older, lo2, _, rfl, .inl (SqL.of ow2.hlo), rfl, ints_flat _, _, rfl, ?_⟩⟩
    rw [if_neg Bool.false_ne_true, in_ints, decide_eq_false hko]
    refine iteF ⟨_, rfl, rfl, _, rfl, iteEq rfl ⟨_, rfl, _, rfl, ?_⟩⟩
    by_cases hkn : k ∈ g.kn
    ·have hb' : b = true := by rw [hb, decide_eq_true (show isIn g k from .inr hkn)]
     subst hb'
     refine iteT ⟨_, rfl, d, .ref ln2, rfl, ow2.newer, .inl ⟨rfl, _, SqL.of ow2.hln⟩, _, rfl, ln2, g.kn, k, rfl, rfl, ow2.hln, hkn, ?_⟩
     refine hU _ _ ⟨rfl, ?_, f2.trans (Fr.put (as := [d, lo2, ln2]) (b := ln2) (by simp) _)⟩
     rw [e]
     exact ⟨by rw [upd_ne hd2.symm]; exact ow2.dd, by rw [upd_ne ow2.ne]; exact ow2.hlo, upd_same, ow2.ne⟩
    ·have hb' : b = false := by rw [hb, decide_eq_false (show ¬ isIn g k from fun z => z.elim hko hkn)]
     subst hb'
     exact iteF (hU _ _ ⟨rfl, by rw [drop_no hko hkn]; exact ow2, f2⟩)
  ·have eo : opS w g k = if w = 0 then putS g k else g := by unfold opS; rw [if_neg w1]
   rw [← eo] at ow2
   exact ⟨_, rfl, rfl, _, rfl, iteNe (no1 w1) (iteF ⟨_, rfl, rfl, _, rfl, iteNe (no1 w1) (iteF (hU _ _ ⟨rfl, ow2, f2⟩))⟩)⟩
 rintro σ' H3 ⟨rfl, ow3, f3⟩
 subst a4 a5 aD
 refine ⟨_, rfl, d, lo2, ln2, st, opS w g k, rfl, ow3, op_nd fin.nd, op_tot ht40 hin40, hst, fun H4 ow4 f4 => ?_⟩
 have q4 := q lo2 ln2 H4 ow4 (f3.trans f4)
 unfold ansS at q4
 rw [← hb] at q4
 by_cases w0 : w = 0
 ·rw [if_pos w0] at q4
  exact ⟨_, rfl, rfl, _, rfl, iteEq (by rw [w0]; rfl) ⟨_, rfl, _, rfl, q4⟩⟩
 ·rw [if_neg w0] at q4
  exact ⟨_, rfl, rfl, _, rfl, iteNe (no0 w0) ⟨_, rfl, q4⟩⟩
end S60
namespace S60
open PySem L2 SC PyProof.Rows S40 Ly Gw
theorem sc__law_lays : FnScope ["_law_rule_here", "_law_own", "_law_newer"] ["_law_rule_here", "_law_own"] (defScope (top 59)) := ⟨rfl, rfl, rfl, by decide +kernel, rfl, by decide +kernel, by decide +kernel⟩
theorem v__law_lays : Vs ["_law_rule_here", "_law_own", "_law_newer"] (defScope (top 59)) := Vs.of (by decide +kernel)
theorem l__law_lays : Ls ["_law_rule_here", "_law_own", "_law_newer"] (defScope (top 59)) := Ls.of sc__law_lays.nd (by decide +kernel)
theorem g__law_lays : Gs ["_law_lay"] (defScope (top 59)) := Gs.of (by decide +kernel)
theorem ok__law_lays {P : Program} {w : World} {K : PySem.W.Frag} {mg : Str → Option Value} {base : Heap} {f : Addr} {fd : FuncData} {cl : CN → Addr} (F : Fun K "_law_lays" "_law_lays" (top 59) f fd) (T : Tx K mg cl) (O__law_lay : Own P w K mg base true 2 "_law_lay" ["_law_rule_here", "_law_size", "_law_keys_here"] (spLayG)) :
  FnOk P w K mg base (CX1 P w) true 3 f fd ["_law_rule_here", "_law_own"] (spLLays) := by
 have S := sc__law_lays
 have Vv := v__law_lays
 have Lo := l__law_lays
 have Gg := g__law_lays
 refine F.ok S (fun vs H Q E h => ?_) (fun cdv A outer s H vs Q E hx hcx hh hr D h => ?_)
 ·obtain ⟨v, r, d, lo, ln, st, s, rfl, _⟩ := h; rfl
 obtain ⟨v, r, d, lo, ln, st, g, rfl, ra, rk, ow, fin, n1, ht40, q⟩ := h
 refine ⟨_, (pss_cons (set_v (i := 2) Lo (cOwn (i := 0) Gg O__law_lay (hr.mono (by decide)) passX (pa_cons (vn Vv 0) (pa_cons (pe_dget (hu_of hr) (vn Vv 1) pe_str (fun _ _ => rfl)) (pa_cons (pe_dget (hu_of hr) (vn Vv 1) pe_str (fun _ _ => rfl)) pa_nil)))))
  (pss_cons (ps_if (pt_cmpR (op_eqL hr.units0) (pe_dget (hu_of hr) (vn Vv 1) pe_str (fun _ _ => rfl)) (pe_lst pa_nil) (nomark _)) (pss_one (ps_ret (pe_tup (pa_cons pe_non (pa_cons (vn Vv 2) pa_nil))))) pss_nil)
  (pss_one (ps_ret (pe_tup (pa_cons (cOwn (i := 0) Gg O__law_lay (hr.mono (by decide)) passX (pa_cons (vn Vv 0) (pa_cons (pe_op op_fdivA (pe_dget (hu_of hr) (vn Vv 1) pe_str (fun _ _ => rfl)) pe_int) (pa_cons (pe_dget (hu_of hr) (vn Vv 1) pe_str (fun _ _ => rfl)) pa_nil)))) (pa_cons (vn Vv 2) pa_nil))))))), ?_⟩
 have nd := List.nodup_append.mp fin.nd
 have hn2 := fin.n2
 have hlo := fin.lo
 have htot : g.ko.length + g.kn.length ≤ 40 := ht40
 have bdn : ∀ k ∈ g.kn, 0 ≤ k ∧ k ≤ 999999 := fun k hk => fin.bd k (List.mem_append.mpr (.inr hk))
 have bdo : ∀ k ∈ g.ko, 0 ≤ k ∧ k ≤ 999999 := fun k hk => fin.bd k (List.mem_append.mpr (.inl hk))
 obtain ⟨F, ok, hF, _⟩ := fc_lay rk hn2 g.kn.length g.kn rfl (by omega) nd.2.1 bdn
 refine ⟨_, rfl, _, rfl, d, .int g.n, rfl, ow.size, _, rfl, d, .ref ln, rfl, ow.newer, v, r, g.n, ln, g.kn, F, rfl, ⟨ra, rk, hn2, by omega⟩, ⟨by omega, by omega⟩, ow.hln, nd.2.1, bdn, by omega, ok, hF, fun l H1 s1 hl => ?_⟩
 have ow1 := ow.same s1
 refine ⟨_, rfl, d, .ref lo, rfl, ow1.older, small (n := 0) (by decide), fun p0 hp0 => ?_⟩
 have s2 := Same.new hp0 (.lst [])
 have hpp : upd H1 p0 (.lst []) p0 = some (.lst []) := upd_same
 have hl2 := s2 _ _ hl
 have ow2 := ow1.same s2
 generalize upd H1 p0 (.lst []) = H2 at s2 hpp hl2 ow2 ⊢
 have s12 := s1.trans s2
 refine ⟨lo, p0, _, _, rfl, rfl, SqL.of ow2.hlo, SqL.of hpp, ints_flat _, rfl, _, rfl, ?_⟩
 by_cases c : g.ko = []
 ·rw [c]
  exact iteT ⟨_, rfl, nilI ⟨small (n := 2) (by decide), fun p hp => q p _ (s12.trans (Same.new hp _)) ⟨⟨.non, l, F, upd_same, ⟨Same.new hp _ _ _ hl2, ok, hF⟩, fun _ => rfl, fun z => absurd c z⟩⟩⟩⟩
 ·have e0 : eqVs (g.ko.map V.int) [] = false := by
   cases e : g.ko with
   | nil => exact absurd e c
   | cons a b => rfl
  rw [e0]
  obtain ⟨m, hm1, hm2, hm3⟩ := fin.ev c
  obtain ⟨F1, ok1, hF1, _⟩ := fc_lay rk hm2 g.ko.length g.ko rfl hm3 nd.1 bdo
  have ediv : (g.n : Int) / 2 = (m : Nat) := by omega
  refine iteF ⟨_, rfl, _, rfl, d, .int g.n, rfl, ow2.size, _, _, rfl, rfl, divC (by decide) (by decide), _, rfl, d, .ref lo, rfl, ow2.older, v, r, m, lo, g.ko, F1, (by show [v, V.int ((g.n : Int) / 2), V.ref lo] = _; rw [ediv]), ⟨ra.same s12, rk, hm2, by omega⟩, ⟨by omega, by omega⟩, ow2.hlo, nd.1, bdo, hm3, ok1, hF1, fun l3 H3 s3 hl3 => ?_⟩
  exact ⟨_, rfl, nilI ⟨small (n := 2) (by decide), fun p hp => q p _ (s12.trans (s3.trans (Same.new hp _))) ⟨⟨.ref l3, l, F, upd_same, ⟨Same.new hp _ _ _ (s3 _ _ hl2), ok, hF⟩, fun z => absurd z c, fun _ => ⟨l3, m, F1, rfl, hm1, hm2, Same.new hp _ _ _ hl3, ok1, hF1⟩⟩⟩⟩⟩
end S60
namespace S60
open PySem L2 SC PyProof.Rows S40 Ly Gw
theorem sc_law : FnScope ["_law_script", "_law_more", "_law_rule_here", "_law_own", "_law_table", "_law_pool", "_law_k", "_law_cell_here", "_law_key", "_law_way", "_law_before", "_law_due", "_law_found", "_law_some"] ["_law_script"] (defScope (top 60)) := ⟨rfl, rfl, rfl, by decide +kernel, rfl, by decide +kernel, by decide +kernel⟩
theorem v_law : Vs ["_law_script", "_law_more", "_law_rule_here", "_law_own", "_law_table", "_law_pool", "_law_k", "_law_cell_here", "_law_key", "_law_way", "_law_before", "_law_due", "_law_found", "_law_some"] (defScope (top 60)) := Vs.of (by decide +kernel)
theorem l_law : Ls ["_law_script", "_law_more", "_law_rule_here", "_law_own", "_law_table", "_law_pool", "_law_k", "_law_cell_here", "_law_key", "_law_way", "_law_before", "_law_due", "_law_found", "_law_some"] (defScope (top 60)) := Ls.of sc_law.nd (by decide +kernel)
theorem g_law : Gs ["_law_drawn", "_law_cell", "_law_rule", "Growing", "_law_keys", "range", "max", "min", "len", "_law_done", "_law_told", "isinstance", "bool", "_law_lays", "sorted", "_law_tried"] (defScope (top 60)) := Gs.of (by decide +kernel)
theorem ok_law {P : Program} {w : World} {K : PySem.W.Frag} {mg : Str → Option Value} {base : Heap} {f : Addr} {fd : FuncData} {cl : CN → Addr} (F : Fun K "law" "law" (top 60) f fd) (T : Tx K mg cl) (O_Growing___init__ : OwnC P w K mg base true 5 (cl .Growing) ["self", "rule", "size", "step"] (spGNew (cl .Growing) (cl .BadRule) (cl .BadSize))) (O_Growing_all_told : OwnM P w K mg base true 2 (cl .Growing) "all_told" ["self"] (spGAll (cl .Growing))) (O_Growing_lays : OwnM P w K mg base true 1 (cl .Growing) "lays" ["self"] (spGLays (cl .Growing))) (O_Growing_moved : OwnM P w K mg base true 1 (cl .Growing) "moved" ["self"] (spGMoved (cl .Growing))) (O__law_cell : Own P w K mg base true 1 "_law_cell" ["_law_script", "_law_k"] (spCell K)) (O__law_drawn : Own P w K mg base true 1 "_law_drawn" ["_law_cell_here", "_law_k"] (spDrawn)) (O__law_rule : Own P w K mg base true 1 "_law_rule" ["_law_more"] (spRuleL)) (O__law_keys : Own P w K mg base true 2 "_law_keys" ["_law_more", "_law_many"] (spKeysL)) (O__law_told : Own P w K mg base true 9 "_law_told" ["_law_table", "_law_way", "_law_key"] (spToldG (cl .Growing))) (O__law_tried : Own P w K mg base true 7 "_law_tried" ["_law_rule_here", "_law_size", "_law_step"] (spTriedG)) (O__law_done : Own P w K mg base true 2 "_law_done" ["_law_own", "_law_way", "_law_key"] (spLDone)) (O__law_lays : Own P w K mg base true 3 "_law_lays" ["_law_rule_here", "_law_own"] (spLLays)) :
  FnOk P w K mg base (CX1 P w) true 10 f fd ["_law_script"] (spLaw K) := by
 have S := sc_law
 have Vv := v_law
 have Lo := l_law
 have Gg := g_law
 refine F.ok S (fun vs H Q E h => ?_) (fun cdv A outer s H vs Q E hx hcx hh hr D h => ?_)
 ·obtain ⟨a, ns, rfl, _⟩ := h; rfl
 obtain ⟨a, ns, rfl, hS, hlen, q⟩ := h
 have hp := passesXE (E := E) D
 refine ⟨_, (pss_cons (set_v (i := 1) Lo (cOwn (i := 0) Gg O__law_drawn (hr.mono (by decide)) passX (pa_cons (cOwn (i := 1) Gg O__law_cell (hr.mono (by decide)) passX (pa_cons (vn Vv 0) (pa_cons pe_int pa_nil))) (pa_cons pe_int pa_nil))))
  (pss_cons (set_v (i := 2) Lo (cOwn (i := 2) Gg O__law_rule (hr.mono (by decide)) passX (pa_cons (vn Vv 1) pa_nil)))
  (pss_cons (set_v (i := 3) Lo (pe_disp (pps_cons pe_str (pe_lst pa_nil) (pps_cons pe_str (pe_lst pa_nil) (pps_cons pe_str (pe_op op_add pe_int (pe_op op_mod (pe_op op_fdivA (vn Vv 1) pe_int) pe_int)) (pps_cons pe_str (pe_op op_add pe_int (pe_op op_mod (pe_op op_fdivA (vn Vv 1) pe_int) pe_int)) (pps_cons pe_str pe_int pps_nil))))) rfl rfl (by decide) (by decide)))
  (pss_cons (set_v (i := 4) Lo (cMk (i := 3) Gg O_Growing___init__ T.mGrowing (hr.mono (by decide)) passX (pa_cons (vn Vv 2) (pa_cons (pe_dget (hu_of hr) (vn Vv 3) pe_str (fun _ _ => rfl)) (pa_cons (pe_dget (hu_of hr) (vn Vv 3) pe_str (fun _ _ => rfl)) pa_nil)))))
  (pss_cons (set_v (i := 5) Lo (cOwn (i := 4) Gg O__law_keys (hr.mono (by decide)) passX (pa_cons (pe_op op_fdivA (vn Vv 1) pe_int) (pa_cons pe_int pa_nil))))
  (pss_cons (ps_for hp (iR1 (i := 5) Gg T.nrange (pa_cons (cB (i := 6) Gg (call_max2 rfl) T.nmax bt_max (pa_cons pe_int (pa_cons (cB (i := 7) Gg (call_min2 rfl) T.nmin bt_min (pa_cons pe_int (pa_cons (cB (i := 8) Gg (call_len_seq) T.nlen bt_len (pa_cons (vn Vv 0) pa_nil)) pa_nil))) pa_nil))) pa_nil)) (tgt_v (i := 6) Lo)
  (pss_cons (set_v (i := 7) Lo (cOwn (i := 0) Gg O__law_drawn (hr.mono (by decide)) passX (pa_cons (cOwn (i := 1) Gg O__law_cell (hr.mono (by decide)) passX (pa_cons (vn Vv 0) (pa_cons (vn Vv 6) pa_nil))) (pa_cons (pe_op op_add (vn Vv 6) pe_int) pa_nil))))
  (pss_cons (set_v (i := 8) Lo (pe_ix ix_list (vn Vv 5) (pe_ix ix_list (pe_lst (pa_cons (pe_op op_mod (vn Vv 6) pe_int) (pa_cons (pe_op op_mod (pe_op op_fdivA (vn Vv 7) pe_int) pe_int) pa_nil))) (pe_op op_mod (vn Vv 7) pe_int) (fun _ _ => rfl)) (fun _ _ => rfl)))
  (pss_cons (set_v (i := 9) Lo (pe_ix ix_list (pe_lst (pa_cons pe_int (pa_cons pe_int (pa_cons pe_int (pa_cons pe_int (pa_cons pe_int (pa_cons pe_int pa_nil))))))) (pe_op op_mod (pe_op op_fdivA (vn Vv 7) pe_int) pe_int) (fun _ _ => rfl)))
  (pss_cons (set_v (i := 10) Lo (pe_dget (hu_of hr) (vn Vv 3) pe_str (fun _ _ => rfl)))
  (pss_cons (set_v (i := 11) Lo (cOwn (i := 9) Gg O__law_done (hr.mono (by decide)) passX (pa_cons (vn Vv 3) (pa_cons (vn Vv 9) (pa_cons (vn Vv 8) pa_nil)))))
  (pss_cons (set_v (i := 12) Lo (cOwn (i := 10) Gg O__law_told (hr.mono (by decide)) passX (pa_cons (vn Vv 4) (pa_cons (vn Vv 9) (pa_cons (vn Vv 8) pa_nil)))))
  (pss_cons (ps_if (PW.pt (pw_or (pt_not (pt_val (cB (i := 11) Gg (call_isi) T.nisinstance bt_isinstance (pa_cons (vn Vv 11) (pa_cons (nTy (i := 12) Gg T.nbool bt_bool) pa_nil))))) (pw_or (pt_not (pt_val (cB (i := 11) Gg (call_isi) T.nisinstance bt_isinstance (pa_cons (vn Vv 12) (pa_cons (nTy (i := 12) Gg T.nbool bt_bool) pa_nil))))) (pw_or1 (pt_cmpR op_ne (vn Vv 12) (vn Vv 11) (nomark _)))))) (pss_one (ps_ret pe_bl)) pss_nil)
  (pss_cons (ps_if (PW.pt (pw_or (pt_cmpR (op_neA hr.units) (cMe0 O_Growing_lays T.clGrowing (hr.mono (by decide)) passX (vn Vv 4)) (cOwn (i := 13) Gg O__law_lays (hr.mono (by decide)) passX (pa_cons (vn Vv 2) (pa_cons (vn Vv 3) pa_nil))) (nomark _)) (pw_or1 (pt_cmpR op_ne (cMe0 O_Growing_moved T.clGrowing (hr.mono (by decide)) passX (vn Vv 4)) (pe_dget (hu_of hr) (vn Vv 3) pe_str (fun _ _ => rfl)) (nomark _))))) (pss_one (ps_ret pe_bl)) pss_nil)
  (pss_cons (ps_if (PW.pt (pw_or (pt_cmpR op_gt (pe_op op_sub (pe_dget (hu_of hr) (vn Vv 3) pe_str (fun _ _ => rfl)) (vn Vv 10)) (pe_dget (hu_of hr) (vn Vv 3) pe_str (fun _ _ => rfl)) (nomark _)) (pw_or1 (pt_cmpR (op_neL hr.units0) (cMe0 O_Growing_all_told T.clGrowing (hr.mono (by decide)) passX (vn Vv 4)) (cB (i := 14) Gg (call_sorted) T.nsorted bt_sorted (pa_cons (pe_op op_cat (pe_dget (hu_of hr) (vn Vv 3) pe_str (fun _ _ => rfl)) (pe_dget (hu_of hr) (vn Vv 3) pe_str (fun _ _ => rfl))) pa_nil)) (nomark _))))) (pss_one (ps_ret pe_bl)) pss_nil)
  (pss_one (ps_if (pt_cmpR op_ne (cOwn (i := 10) Gg O__law_told (hr.mono (by decide)) passX (pa_cons (vn Vv 4) (pa_cons (pe_op op_mod (pe_op op_fdivA (vn Vv 7) pe_int) pe_int) (pa_cons (pe_ix ix_list (pe_lst (pa_cons (pe_un un_neg pe_int) (pa_cons pe_int (pa_cons pe_bl (pa_cons pe_non pa_nil))))) (pe_op op_mod (pe_op op_fdivA (vn Vv 7) (pe_op op_pow pe_int pe_int)) pe_int) (fun _ _ => rfl)) pa_nil)))) pe_str (nomark _)) (pss_one (ps_ret pe_bl)) pss_nil))))))))))))
  (pss_cons (set_v (i := 13) Lo (pe_lst (pa_cons (cOwn (i := 15) Gg O__law_tried (hr.mono (by decide)) passX (pa_cons pe_non (pa_cons pe_int (pa_cons pe_int pa_nil)))) (pa_cons (cOwn (i := 15) Gg O__law_tried (hr.mono (by decide)) passX (pa_cons (vn Vv 2) (pa_cons pe_int (pa_cons pe_int pa_nil)))) (pa_cons (cOwn (i := 15) Gg O__law_tried (hr.mono (by decide)) passX (pa_cons (vn Vv 2) (pa_cons pe_int (pa_cons pe_int pa_nil)))) pa_nil)))))
  (pss_cons (set_v (i := 13) Lo (pe_op op_cat (vn Vv 13) (pe_lst (pa_cons (cOwn (i := 15) Gg O__law_tried (hr.mono (by decide)) passX (pa_cons (vn Vv 2) (pa_cons pe_int (pa_cons pe_int pa_nil)))) pa_nil))))
  (pss_one (ps_ret (pe_cmpR (op_eqL hr.units0) (vn Vv 13) (pe_lst (pa_cons pe_str (pa_cons pe_str (pa_cons pe_str (pa_cons pe_str pa_nil))))) (nomark _)))))))))))), ?_⟩
 have hz : 100000 < sizeLine := by decide
 refine sq9 fun t1 t2 t3 t4 t5 t6 t7 t8 t9 DD a1 a2 a3 a4 a5 a6 a7 a8 a9 aD => ?_
 refine seq_cut (fun σ' H' => ∃ m : Int, σ' = [some (.ref a), some (.int m), none, none, none, none, none, none, none, none, none, none, none, none] ∧ Same H H' ∧ 0 ≤ m ∧ m < 2 ^ 128) (fun U hU => ?_) ?_
 ·subst a1
  exact ⟨_, rfl, a, ns, 0, rfl, hS, hlen, ⟨by omega, by omega⟩, fun c H3 s3 => ⟨c, 1, rfl, fun m m0 m1 => hU _ _ ⟨m, rfl, s3, m0, m1⟩⟩⟩
 rintro σ' H1 ⟨m, rfl, s1, m0, m1⟩
 refine seq_cut (fun σ' H' => ∃ v r, σ' = [some (.ref a), some (.int m), some v, none, none, none, none, none, none, none, none, none, none, none] ∧ Same H1 H' ∧ RlAt H' v r ∧ r.Ok) (fun U hU => ?_) ?_
 ·subst a2
  exact ⟨_, rfl, m, rfl, m0, m1, fun v r H4 s4 ra rk => hU _ _ ⟨v, r, rfl, s4, ra, rk⟩⟩
 rintro σ' H2 ⟨v, r, rfl, s2, ra, rk⟩
 refine seq_cut (fun σ' H' => ∃ (d lo ln : Addr) (n st : Nat), σ' = [some (.ref a), some (.int m), some v, some (.ref d), none, none, none, none, none, none, none, none, none, none] ∧ Same H2 H' ∧ (2 ≤ n ∧ n ≤ 8) ∧ (1 ≤ st ∧ st ≤ 4) ∧ H2 d = none ∧ H2 lo = none ∧ H2 ln = none ∧ OwnAt H' d lo ln st ⟨n, [], [], 0⟩) (fun U hU => ?_) ?_
 ·subst a3
  obtain ⟨n, hn⟩ : ∃ n : Nat, 2 + m / 8 % 7 = n := ⟨(2 + m / 8 % 7).toNat, by omega⟩
  obtain ⟨st, hst⟩ : ∃ n : Nat, 1 + m / 64 % 4 = n := ⟨(1 + m / 64 % 4).toNat, by omega⟩
  intro p hp
  have sp := Same.new hp (.dK [])
  have hpp : upd H2 p (.dK []) p = some (.dK []) := upd_same
  generalize upd H2 p (.dK []) = HA at sp hpp ⊢
  refine ⟨small (n := 0) (by decide), fun l1 hl1 => ⟨small (n := 0) (by decide), fun l2 hl2 => ?_⟩⟩
  have sB := Same.new hl1 (.lst [])
  have sC := Same.new hl2 (.lst [])
  have h11 := sC _ _ (upd_same (H := HA) (a := l1) (o := .lst []))
  have h22 : upd (upd HA l1 (.lst [])) l2 (.lst []) l2 = some (.lst []) := upd_same
  have hl2A := sB.free hl2
  have hne : l1 ≠ l2 := fun z => by rw [← z, upd_same] at hl2; cases hl2
  have sBC := sB.trans sC
  generalize upd (upd HA l1 (.lst [])) l2 (.lst []) = HC at sBC h11 h22 ⊢
  refine ⟨_, rfl, _, _, rfl, rfl, divC (by decide) (by decide), _, _, rfl, rfl, posJ (by decide), _, _, rfl, rfl, _, rfl, _, _, rfl, rfl, divC (by decide) (by decide), _, _, rfl, rfl, posJ (by decide), _, _, rfl, rfl, sBC _ _ hpp, [(.inr "older", .ref l1), (.inr "newer", .ref l2), (.inr "size", .int (2 + m / 8 % 7)), (.inr "step", .int (1 + m / 64 % 4)), (.inr "gone", .int 0)], rfl, by simp, ?_⟩
  have hp1 : l1 ≠ p := fun z => by rw [z, hpp] at hl1; cases hl1
  have hp2 : l2 ≠ p := fun z => by rw [z, hpp] at hl2A; cases hl2A
  refine hU _ _ ⟨p, l1, l2, n, st, rfl, (sp.trans sBC).upd hp (sBC _ _ hpp) _, by omega, by omega, hp, sp.free hl1, sp.free hl2A, ?_⟩
  refine ⟨?_, by rw [upd_ne hp1]; exact h11, by rw [upd_ne hp2]; exact h22, hne⟩
  rw [upd_same, hn, hst]
  rfl
 rintro σ' H3 ⟨d, lo, ln, n, st, rfl, s3, ⟨n2, n8⟩, ⟨st1, st4⟩, hdn, hlon, hlnn, ow3⟩
 refine seq_cut (fun σ' H' => ∃ t Ln, σ' = [some (.ref a), some (.int m), some v, some (.ref d), some (.ref t), none, none, none, none, none, none, none, none, none] ∧ Same H3 H' ∧ H3 t = none ∧ H3 Ln = none ∧ GrF (cl .Growing) H' t Ln none r st ⟨n, [], [], 0⟩) (fun U hU => ?_) ?_
 ·subst a4
  refine ⟨_, rfl, _, rfl, d, .int n, rfl, ow3.size, _, rfl, d, .int st, rfl, ow3.step, fun x dx hx0 hdx hne => ?_⟩
  have sx : Same H3 (upd (upd H3 dx (.own x)) x (.ins (cl .Growing) dx [])) := (Same.new hdx _).trans (Same.new (by rw [upd_ne hne.symm]; exact hx0) _)
  have ra6 := (ra.same s3).same sx
  refine ⟨x, dx, v, .int n, .int st, .int, .int, rfl, upd_same, ra6.plain rk, .int _, .int _, fun z => tf (ra6.rule rk) z, fun _ z => z.elim (fun z => tf (wholeV_int (by omega) (by omega)) z) (fun z => tf (wholeV_int (by omega) (by omega)) z), fun r' n' st' ra' rk' en _ _ est _ _ LN H6 hLN sXN gf => ?_⟩
  have e1 := Rl.inj ra6 ra'
  have e2 : n' = n := by have := V.int.inj en; omega
  have e3 : st' = st := by have := V.int.inj est; omega
  subst e1 e2 e3
  exact ⟨rfl, hU _ _ ⟨x, LN, rfl, fun b u hbu => sXN b u (fun w => by rw [w, hx0] at hbu; cases hbu) (sx b u hbu), hx0, sx.free hLN, gf⟩⟩
 rintro σ' H4 ⟨t, Ln, rfl, s4, htn, hLnn, gf4⟩
 refine seq_cut (fun σ' H' => ∃ pl pool, σ' = st60 a m v d t pl none none none none none none none none ∧ Same H4 H' ∧ H' pl = some (.lst (pool.map V.int)) ∧ goodKs (pool.map V.int) pool ∧ pool.length = 40) (fun U hU => ?_) ?_
 ·subst a5
  exact ⟨_, rfl, _, _, rfl, rfl, divC (by decide) (by decide), m / 16, 40, rfl, by omega, fun lk xs ks H5 s5 hlk g hkl => hU _ _ ⟨lk, ks, rfl, s5, by rw [← g.1]; exact hlk, by rw [← g.1]; exact g, hkl⟩⟩
 rintro σ' H5 ⟨pl, pool, rfl, s5, hpl, ⟨g1, pnd, pbd⟩, hpll⟩
 have gf5 := gf4.same s5
 have ow5 := ow3.same (s4.trans s5)
 obtain ⟨dxt, vt, ht5, rat⟩ := gf5.at_.obj
 obtain ⟨Fn, rn5⟩ := gf5.at_.new
 have hplne : ∀ b xs, H5 b = some (.lst xs) → xs.length < 40 → pl ≠ b := fun b xs hb hl z => by
  rw [← z, hpl] at hb
  have := congrArg List.length (HO.lst.inj (Option.some.inj hb))
  rw [List.length_map, hpll] at this
  omega
 have hpla : pl ∉ mutG t Ln none ++ [d, lo, ln] := fun z => by
  rcases List.mem_append.mp z with z | z
  ·unfold mutG at z
   simp only [Option.toList_none, List.mem_cons, List.not_mem_nil, or_false] at z
   rcases z with z | z
   ·rw [z, ht5] at hpl; cases hpl
   ·exact hplne Ln _ rn5.pl (by rw [ringL_len]; show n < 40; omega) z
  ·simp only [List.mem_cons, List.not_mem_nil, or_false] at z
   rcases z with z | z | z
   ·rw [z, ow5.dd] at hpl; cases hpl
   ·exact hplne lo _ ow5.hlo (by simp) z
   ·exact hplne ln _ ow5.hln (by simp) z
 have no2 : ∀ b ∈ mutG t Ln none ++ [d, lo, ln], H2 b = none := fun b z => by
  rcases List.mem_append.mp z with z | z
  ·unfold mutG at z
   simp only [Option.toList_none, List.mem_cons, List.not_mem_nil, or_false] at z
   rcases z with rfl | rfl
   ·exact s3.free htn
   ·exact s3.free hLnn
  ·simp only [List.mem_cons, List.not_mem_nil, or_false] at z
   rcases z with rfl | rfl | rfl
   ·exact hdn
   ·exact hlon
   ·exact hlnn
 have sep5 : ∀ b ∈ mutG t Ln none, b ∉ [d, lo, ln] := fun b z w => by
  have hb : H3 b = none := by
   unfold mutG at z
   simp only [Option.toList_none, List.mem_cons, List.not_mem_nil, or_false] at z
   rcases z with rfl | rfl
   ·exact htn
   ·exact hLnn
  simp only [List.mem_cons, List.not_mem_nil, or_false] at w
  rcases w with rfl | rfl | rfl
  ·rw [ow3.dd] at hb; cases hb
  ·rw [ow3.hlo] at hb; cases hb
  ·rw [ow3.hln] at hb; cases hb
 obtain ⟨Hb, eHb⟩ : ∃ Hb, Hb = hid H5 (mutG t Ln none ++ [d, lo, ln]) := ⟨_, rfl⟩
 have s2b : Same H2 Hb := by rw [eHb]; exact hid_of (s3.trans (s4.trans s5)) no2
 have gi0 : GI (cl .Growing) Hb H5 t d r st pool Ln none lo ln ⟨n, [], [], 0⟩ ⟨n, [], [], 0⟩ := ⟨by rw [eHb]; exact hid_sub fun b hb => List.mem_append.mpr (.inl hb), by rw [eHb]; exact hid_sub fun b hb => List.mem_append.mpr (.inr hb), gf5, ow5, sep5⟩
 have hplb : Hb pl = some (.lst (pool.map V.int)) := by rw [eHb, hid_at hpla]; exact hpl
 have rab := ra.same s2b
 have sAb := s1.trans (s2.trans s2b)
 clear eHb no2 sep5 hpla hplne rn5 rat ht5 gf5 ow5 gf4 ow3 s3 s4 s5 htn hLnn hdn hlon hlnn s1 s2 s2b ra hpl
 refine seq_cut (fun σ' H' => ∃ v6 v7 v8 v9 v10 v11 v12 v13, σ' = st60 a m v d t pl v6 v7 v8 v9 v10 v11 v12 v13 ∧ Same Hb H') (fun U hU => ?_) ?_
 ·subst a6
  obtain ⟨J0, J1⟩ := rng25 ((ns.map V.int).length : Nat) (by omega)
  refine ⟨_, rfl, a, _, rfl, .inl ((sAb.trans gi0.hg.1).seq hS), 60, _, rfl, 25, _, rfl, _, rfl, (by omega), (by omega), ?_⟩
  generalize (if (if (((ns.map V.int).length : Nat) : Int) < 60 then (((ns.map V.int).length : Nat) : Int) else 60) > 25 then (if (((ns.map V.int).length : Nat) : Int) < 60 then (((ns.map V.int).length : Nat) : Int) else 60) else 25) = J at J0 J1
  refine for_range (n := J.toNat) (InvG (fun v6 v7 v8 v9 v10 v11 v12 v13 => st60 a m v d t pl v6 v7 v8 v9 v10 v11 v12 v13) (cl .Growing) Hb t d r st pool) ⟨_, _, _, _, _, _, _, _, Ln, none, lo, ln, _, rfl, gi0, (fun _ h => nomatch h), by show n ≤ 106; omega⟩ ?_ (fun σ H' ⟨v6, v7, v8, v9, v10, v11, v12, v13, _, _, _, _, _, e, gi, _⟩ => hU _ _ ⟨v6, v7, v8, v9, v10, v11, v12, v13, e, gi.hg.1⟩)
  clear gi0
  rintro i σ H' hi ⟨v6, v7, v8, v9, v10, v11, v12, v13, Ln, oL, lo, ln, g, rfl, gi, gsub, gn⟩
  show tSeq _ _ _ _ _
  refine sq10 fun u1 u2 u3 u4 u5 u6 u7 u8 u9 u10 DE b1 b2 b3 b4 b5 b6 b7 b8 b9 b10 bD => ?_
  refine seq_cut (fun σ' H2 => ∃ c : Int, σ' = st60 a m v d t pl (some (.int (0 + (i : Int)))) (some (.int c)) v8 v9 v10 v11 v12 v13 ∧ GI (cl .Growing) Hb H2 t d r st pool Ln oL lo ln g g ∧ 0 ≤ c) (fun U hU => ?_) ?_
  ·subst b1
   exact ⟨_, rfl, _, rfl, a, ns, 0 + (i : Int), rfl, (sAb.trans gi.hg.1).seq hS, hlen, ⟨by omega, by omega⟩, fun c H3 s3 => ⟨_, rfl, _, _, rfl, rfl, c, 0 + (i : Int) + 3, rfl, fun m m0 m1 => hU _ _ ⟨m, rfl, gi.same s3, m0⟩⟩⟩
  clear gi
  rintro σ' H2 ⟨c, rfl, gi, c0⟩
  refine seq_cut (fun σ' H3 => ∃ k : Int, σ' = st60 a m v d t pl (some (.int (0 + (i : Int)))) (some (.int c)) (some (.int k)) v9 v10 v11 v12 v13 ∧ Same H2 H3 ∧ k ∈ pool) (fun U hU => ?_) ?_
  ·subst b2
   obtain ⟨w1, e1, e2⟩ := pick (xs := [(0 + (i : Int)) % 40, c / 64 % 40].map V.int) c 2 rfl (by decide)
   obtain ⟨zi, rfl, z1, z2⟩ := memI (fun i => 0 ≤ i ∧ i < 40) e2 (allC (by omega) (allC (by omega) allI))
   obtain ⟨jj, rfl⟩ : ∃ jj : Nat, zi = jj := ⟨zi.toNat, by omega⟩
   obtain ⟨k, hk⟩ : ∃ k, pool[jj]? = some k := ⟨_, List.getElem?_eq_getElem (by omega)⟩
   refine ⟨_, rfl, _, rfl, _, _, rfl, rfl, posJ (by decide), _, rfl, _, _, rfl, rfl, divC (by decide) (by decide), _, _, rfl, rfl, posJ (by decide), small (n := 2) (by decide), fun p1 h1 => ?_⟩
   exact ⟨_, rfl, _, _, rfl, rfl, posJ (by decide), p1, _, _, _, rfl, rfl, SqL.of upd_same, e1, pl, _, _, _, rfl, rfl, SqL.of (Same.new h1 _ _ _ (gi.hg.1 _ _ hplb)), atI_nat (by rw [List.getElem?_map, hk]; rfl), hU _ _ ⟨k, rfl, Same.new h1 _, List.mem_of_getElem? hk⟩⟩
  rintro σ' H3 ⟨k, rfl, s3, hkp⟩
  have hkb := pbd k hkp
  have gi3 := gi.same s3
  clear gi
  refine seq_cut (fun σ' H4 => ∃ w : Nat, σ' = st60 a m v d t pl (some (.int (0 + (i : Int)))) (some (.int c)) (some (.int k)) (some (.int w)) v10 v11 v12 v13 ∧ Same H3 H4 ∧ w ≤ 2) (fun U hU => ?_) ?_
  ·subst b3
   obtain ⟨w1, e1, e2⟩ := pick (xs := [0, 0, 0, 0, 1, 2].map V.int) (c / 8) 6 rfl (by decide)
   obtain ⟨zi, rfl, z1, z2⟩ := memI (fun i => 0 ≤ i ∧ i ≤ 2) e2 (allC (by omega) (allC (by omega) (allC (by omega) (allC (by omega) (allC (by omega) (allC (by omega) allI))))))
   obtain ⟨w, rfl⟩ : ∃ w : Nat, zi = w := ⟨zi.toNat, by omega⟩
   refine ⟨small (n := 6) (by decide), fun p1 h1 => ?_⟩
   exact ⟨_, rfl, _, _, rfl, rfl, divC (by decide) (by decide), _, _, rfl, rfl, posJ (by decide), p1, _, _, _, rfl, rfl, SqL.of upd_same, e1, hU _ _ ⟨w, rfl, Same.new h1 _, by omega⟩⟩
  rintro σ' H4 ⟨w, rfl, s4, hw⟩
  have gi4 := gi3.same s4
  clear gi3 s3 s4
  refine seq_cut (fun σ' H5 => σ' = st60 a m v d t pl (some (.int (0 + (i : Int)))) (some (.int c)) (some (.int k)) (some (.int w)) (some (.int g.g)) v11 v12 v13 ∧ H5 = H4) (fun U hU => ?_) ?_
  ·subst b4
   exact ⟨_, rfl, d, .int g.g, rfl, gi4.ow.gone, hU _ _ ⟨rfl, rfl⟩⟩
  rintro σ' H5 ⟨rfl, rfl⟩
  have h40 : ¬ isIn g k → g.tot < 40 := in40 gi4.gf.fin.nd gsub hkp hpll
  refine seq_cut (fun σ' H6 => ∃ lo' ln', σ' = st60 a m v d t pl (some (.int (0 + (i : Int)))) (some (.int c)) (some (.int k)) (some (.int w)) (some (.int g.g)) (some (.bl (ansS w g k))) v12 v13 ∧ GI (cl .Growing) Hb H6 t d r st pool Ln oL lo' ln' g (movS (opS w g k) st)) (fun U hU => ?_) ?_
  ·subst b5
   exact ⟨_, rfl, _, rfl, _, rfl, d, lo, ln, st, g, w, k, rfl, hw, gi4.ow, gi4.gf.fin, gi4.gf.tot, h40, st4, fun lo' ln' H' ow' f' => hU _ _ ⟨lo', ln', rfl, gi4.own ow' f'⟩⟩
  clear gi4
  rintro σ' H6 ⟨lo', ln', rfl, gi6⟩
  refine seq_cut (fun σ' H7 => ∃ Ln' oL', σ' = st60 a m v d t pl (some (.int (0 + (i : Int)))) (some (.int c)) (some (.int k)) (some (.int w)) (some (.int g.g)) (some (.bl (ansS w g k))) (some (.bl (ansS w g k))) v13 ∧ GI (cl .Growing) Hb H7 t d r st pool Ln' oL' lo' ln' (movS (opS w g k) st) (movS (opS w g k) st)) (fun U hU => ?_) ?_
  ·subst b6
   refine ⟨_, rfl, _, rfl, _, rfl, t, Ln, oL, r, st, g, w, .int k, .int, rfl, hw, gi6.gf, .int _, fun z => tf (wholeV_int hkb.1 hkb.2) z, fun k' ek _ => ?_⟩
   have ek' := V.int.inj ek
   subst ek'
   exact ⟨h40, fun Ln' oL' H' gf' f' => hU _ _ ⟨Ln', oL', rfl, gi6.deed gf' f'⟩⟩
  have nsub := mov_sub (st := st) (op_nd (w := w) (k := k) gi6.gf.fin.nd) (op_sub (w := w) gsub hkp)
  have nn : (movS (opS w g k) st).n ≤ 106 := op_n gn h40
  have ng := (mov_g (opS w g k) st).1
  rw [op_g] at ng
  clear gi6
  rintro σ' H7 ⟨Ln', oL', rfl, gi7⟩
  generalize movS (opS w g k) st = g' at gi7 nsub nn ng
  generalize ansS w g k = ab
  refine seq_cut (fun σ' H8 => σ' = st60 a m v d t pl (some (.int (0 + (i : Int)))) (some (.int c)) (some (.int k)) (some (.int w)) (some (.int g.g)) (some (.bl ab)) (some (.bl ab)) v13 ∧ H8 = H7) (fun U hU => ?_) ?_
  ·subst b7
   have h1 := hU _ _ ⟨rfl, rfl⟩
   exact ⟨_, rfl, _, _, _, _, rfl, (Kn.bl _).ty, kit_bool .bl, _, rfl, iteF ⟨_, rfl, _, _, _, _, rfl, (Kn.bl _).ty, kit_bool .bl, _, rfl, iteF ⟨_, rfl, _, rfl, rfl, _, rfl, iteNS rfl h1⟩⟩⟩
  rintro σ' H8 ⟨rfl, rfl⟩
  refine seq_cut (fun σ' H9 => σ' = st60 a m v d t pl (some (.int (0 + (i : Int)))) (some (.int c)) (some (.int k)) (some (.int w)) (some (.int g.g)) (some (.bl ab)) (some (.bl ab)) v13 ∧ Same H8 H9) (fun U hU => ?_) ?_
  ·subst b8
   obtain ⟨dx, vv, ht, rat⟩ := gi7.gf.at_.obj
   refine ⟨_, rfl, t, dx, _, rfl, ht, rfl, t, Ln', oL', r, st, g', rfl, gi7.gf, fun p Hp sp lp => ?_⟩
   have gip := gi7.same sp
   refine ⟨_, rfl, _, rfl, v, r, d, lo', ln', st, g', rfl, rab.same gip.hg.1, rk, gip.ow, gip.gf.fin, nn, gip.gf.tot, fun q1 Hq sq lq => ?_⟩
   have giq := gip.same sq
   obtain ⟨xs, ys, hx1, hy1, hl1, hal⟩ := lays_alike (K := K) rk giq.gf.fin.n2 (lp.same sq) lq
   exact ⟨p, q1, xs, ys, rfl, rfl, .inr ⟨SqT.of hx1, SqT.of hy1⟩, hl1, hal, _, rfl, iteF ⟨_, rfl, t, dx, _, rfl, sq _ _ (sp _ _ ht), rfl, t, Ln', oL', r, st, g', rfl, giq.gf, _, rfl, d, .int g'.g, rfl, giq.ow.gone, rfl, _, rfl, iteNS rfl (hU _ _ ⟨rfl, sp.trans sq⟩)⟩⟩
  rintro σ' H9 ⟨rfl, s9⟩
  have gi9 := gi7.same s9
  refine seq_cut (fun σ' H10 => σ' = st60 a m v d t pl (some (.int (0 + (i : Int)))) (some (.int c)) (some (.int k)) (some (.int w)) (some (.int g.g)) (some (.bl ab)) (some (.bl ab)) v13 ∧ Same H9 H10) (fun U hU => ?_) ?_
  ·subst b9
   obtain ⟨dx, vv, ht, rat⟩ := gi9.gf.at_.obj
   have htot : g'.ko.length + g'.kn.length ≤ 40 := gi9.gf.tot
   refine ⟨_, rfl, d, .int g'.g, rfl, gi9.ow.gone, _, rfl, _, _, rfl, rfl, _, rfl, d, .int st, rfl, gi9.ow.step, _, _, rfl, rfl, _, rfl, ite2 (fun z => by have := of_decide_eq_true z; omega) fun _ => ?_⟩
   refine ⟨_, rfl, t, dx, _, rfl, ht, rfl, t, Ln', oL', r, st, g', rfl, gi9.gf, fun l Hl sl hl => ?_⟩
   have gil := gi9.same sl
   refine ⟨_, rfl, d, .ref lo', rfl, gil.ow.older, _, rfl, d, .ref ln', rfl, gil.ow.newer, lo', ln', _, _, rfl, rfl, gil.ow.hlo, gil.ow.hln, by rw [List.length_map, List.length_map]; omega, fun p hp => ?_⟩
   rw [← List.map_append]
   refine ⟨p, g'.ko ++ g'.kn, rfl, SqL.of upd_same, by rw [List.length_append]; omega, fun l2 ks2 hl2 pm2 pw2 => ⟨l, l2, _, _, rfl, rfl, SqL.of (Same.new hl2 _ _ _ (Same.new hp _ _ _ hl)), SqL.of upd_same, ints_flat _, ints_flat _, _, rfl, ?_⟩⟩
   rw [srt_of pm2 pw2, eqVs_refl (ints_flat _)]
   exact iteF (hU _ _ ⟨rfl, sl.trans ((Same.new hp _).trans (Same.new hl2 _))⟩)
  rintro σ' H10 ⟨rfl, s10⟩
  have gi10 := gi9.same s10
  subst b10 bD
  obtain ⟨w2, hw2, ew2⟩ := pickI (c / 4096) (n := 3) (by decide)
  obtain ⟨ov, e1, e2⟩ := pick (xs := [V.int (-1), .int 1000000, .bl true, .non]) (c / 2 ^ 16) 4 rfl (by decide)
  refine ⟨_, rfl, _, rfl, _, _, rfl, rfl, divC (by decide) (by decide), _, _, rfl, rfl, posJ (by decide), _, rfl, small (n := 4) (by decide), fun p1 h1 => ?_⟩
  have hk : ∃ T, Kn (upd H10 p1 (.lst [V.int (-1), .int 1000000, .bl true, .non])) ov T ∧ wholeV ov 0 999999 = false := by
   simp only [List.mem_cons, List.not_mem_nil, or_false] at e2
   rcases e2 with rfl | rfl | rfl | rfl
   ·exact ⟨_, .int _, rfl⟩
   ·exact ⟨_, .int _, rfl⟩
   ·exact ⟨_, .bl _, rfl⟩
   ·exact ⟨_, .non, rfl⟩
  obtain ⟨Tv, kn, hov⟩ := hk
  have gi11 := gi10.same (Same.new h1 (.lst [V.int (-1), .int 1000000, .bl true, .non]))
  refine ⟨_, rfl, _, _, rfl, rfl, cpw (by decide) (by decide), _, _, rfl, rfl, divC (by decide) (by decide), _, _, rfl, rfl, posJ (by decide), p1, _, _, _, rfl, rfl, SqL.of upd_same, e1, t, Ln', oL', r, st, g', w2, ov, Tv, by rw [← ew2]; rfl, by omega, gi11.gf, kn, fun _ H9 s9 => ⟨rfl, _, rfl, iteNS rfl ⟨_, _, _, _, _, _, _, _, Ln', oL', lo', ln', g', rfl, gi11.same s9, nsub, nn⟩⟩, fun k ek kb => ?_⟩
  rw [ek] at hov
  exact tf (wholeV_int kb.1 kb.2) hov
 rintro σ' H9 ⟨v6, v7, v8, v9, v10, v11, v12, v13, rfl, s9⟩
 have ra9 := rab.same s9
 refine seq_cut (fun σ' H' => ∃ p, σ' = st60 a m v d t pl v6 v7 v8 v9 v10 v11 v12 (some (.ref p)) ∧ Same H9 H' ∧ H' p = some (.lst [.str "BadRule", .str "BadSize", .str "BadSize"])) (fun U hU => ?_) ?_
 ·subst a7
  exact ⟨.non, .int 1, .int 0, _, _, rfl, .int _, .int _, .inl ⟨rfl, fun Ha sa => ⟨_, rfl, v, .int 65, .int 1, _, _, rfl, .int _, .int _, .inr ⟨r, ra9.same sa, rk, .inl rfl, fun Hc sc => ⟨_, rfl, v, .int 8, .int 0, _, _, rfl, .int _, .int _, .inr ⟨r, ra9.same (sa.trans sc), rk, .inr rfl, fun Hd sd => nilI ⟨small (n := 3) (by decide), fun p hp => hU _ _ ⟨p, rfl, sa.trans (sc.trans (sd.trans (Same.new hp _))), upd_same⟩⟩⟩⟩⟩⟩⟩⟩
 rintro σ' H10 ⟨p, rfl, s10, hp10⟩
 have ra10 := ra9.same s10
 refine seq_cut (fun σ' H' => ∃ p, σ' = st60 a m v d t pl v6 v7 v8 v9 v10 v11 v12 (some (.ref p)) ∧ H' p = some (.lst [.str "BadRule", .str "BadSize", .str "BadSize", .str "BadSize"])) (fun U hU => ?_) ?_
 ·subst a8
  refine ⟨_, rfl, _, rfl, v, .int 8, .int 5, _, _, rfl, .int _, .int _, .inr ⟨r, ra10, rk, .inr rfl, fun Hd sd => nilI ⟨small (n := 1) (by decide), fun p2 hp2 => ⟨p, p2, _, _, rfl, rfl, Same.new hp2 _ _ _ (sd _ _ hp10), upd_same, small (n := 4) (by decide), fun p3 hp3 => hU _ _ ⟨p3, rfl, upd_same⟩⟩⟩⟩⟩
 rintro σ' H11 ⟨p3, rfl, hp3⟩
 subst a9 aD
 refine ⟨_, rfl, small (n := 4) (by decide), fun p4 hp4 => ⟨p3, p4, _, _, rfl, rfl, SqL.of (Same.new hp4 _ _ _ hp3), SqL.of upd_same, rfl, rfl, ?_⟩⟩
 exact q _
end S60
namespace S60
open PySem L2 SC PyProof.Rows
set_option maxHeartbeats 0 in
theorem all_mk {l : PySem.W.OpenLaw} {w : World} {K : PySem.W.Frag} {h : Heap} {mg : Str → Option Value} {fa c_StrewError c_BadRule c_BadKey c_BadSize c_Full c_TooMany c_Growing f_43 f_35 f_6 f_8 f_9 f_38 f_17 f_24 f_18 f_12 f_13 f_19 f_40 f_41 f_20 f_25 f_26 f_39 f_42 f_36 f_0 f_3 f_1 f_4 f_2 f_14 f_10 f_15 f_5 f_11 f_7 f_27 f_21 f_28 f_29 f_30 f_31 f_16 f_37 f_32 f_22 f_23 f_33 f_34 f_44 : Addr} (X : K.In h) (G : h.Ns mainGlobals mg) (hfa : mg "law" = some (.ref fa))
  {od_43 an_43 od_35 an_35 od_6 an_6 od_8 an_8 od_9 an_9 od_38 an_38 od_17 an_17 od_24 an_24 od_18 an_18 od_12 an_12 od_13 an_13 od_19 an_19 od_40 an_40 od_41 an_41 od_20 an_20 od_25 an_25 od_26 an_26 od_39 an_39 od_42 an_42 od_36 an_36 od_0 an_0 od_3 an_3 od_1 an_1 od_4 an_4 od_2 an_2 od_14 an_14 od_10 an_10 od_15 an_15 od_5 an_5 od_11 an_11 od_7 an_7 od_27 an_27 od_21 an_21 od_28 an_28 od_29 an_29 od_30 an_30 od_31 an_31 od_16 an_16 od_37 an_37 od_32 an_32 od_22 an_22 od_23 an_23 od_33 an_33 od_34 an_34 od_44 an_44 : Option Addr} {sl_43 sl_35 sl_6 sl_8 sl_9 sl_38 sl_17 sl_24 sl_18 sl_12 sl_13 sl_19 sl_40 sl_41 sl_20 sl_25 sl_26 sl_39 sl_42 sl_36 sl_0 sl_3 sl_1 sl_4 sl_2 sl_14 sl_10 sl_15 sl_5 sl_11 sl_7 sl_27 sl_21 sl_28 sl_29 sl_30 sl_31 sl_16 sl_37 sl_32 sl_22 sl_23 sl_33 sl_34 sl_44 : Array (Option Value)} {oc_43 kV_43 dc_43 pm_43 cd_43 ct_43 oc_35 kV_35 dc_35 pm_35 cd_35 ct_35 oc_6 kV_6 dc_6 pm_6 cd_6 ct_6 oc_8 kV_8 dc_8 pm_8 cd_8 ct_8 oc_9 kV_9 dc_9 pm_9 cd_9 ct_9 oc_38 kV_38 dc_38 pm_38 cd_38 ct_38 oc_17 kV_17 dc_17 pm_17 cd_17 ct_17 oc_24 kV_24 dc_24 pm_24 cd_24 ct_24 oc_18 kV_18 dc_18 pm_18 cd_18 ct_18 oc_12 kV_12 dc_12 pm_12 cd_12 ct_12 oc_13 kV_13 dc_13 pm_13 cd_13 ct_13 oc_19 kV_19 dc_19 pm_19 cd_19 ct_19 oc_40 kV_40 dc_40 pm_40 cd_40 ct_40 oc_41 kV_41 dc_41 pm_41 cd_41 ct_41 oc_20 kV_20 dc_20 pm_20 cd_20 ct_20 oc_25 kV_25 dc_25 pm_25 cd_25 ct_25 oc_26 kV_26 dc_26 pm_26 cd_26 ct_26 oc_39 kV_39 dc_39 pm_39 cd_39 ct_39 oc_42 kV_42 dc_42 pm_42 cd_42 ct_42 oc_36 kV_36 dc_36 pm_36 cd_36 ct_36 oc_0 kV_0 dc_0 pm_0 cd_0 ct_0 oc_3 kV_3 dc_3 pm_3 cd_3 ct_3 oc_1 kV_1 dc_1 pm_1 cd_1 ct_1 oc_4 kV_4 dc_4 pm_4 cd_4 ct_4 oc_2 kV_2 dc_2 pm_2 cd_2 ct_2 oc_14 kV_14 dc_14 pm_14 cd_14 ct_14 oc_10 kV_10 dc_10 pm_10 cd_10 ct_10 oc_15 kV_15 dc_15 pm_15 cd_15 ct_15 oc_5 kV_5 dc_5 pm_5 cd_5 ct_5 oc_11 kV_11 dc_11 pm_11 cd_11 ct_11 oc_7 kV_7 dc_7 pm_7 cd_7 ct_7 oc_27 kV_27 dc_27 pm_27 cd_27 ct_27 oc_21 kV_21 dc_21 pm_21 cd_21 ct_21 oc_28 kV_28 dc_28 pm_28 cd_28 ct_28 oc_29 kV_29 dc_29 pm_29 cd_29 ct_29 oc_30 kV_30 dc_30 pm_30 cd_30 ct_30 oc_31 kV_31 dc_31 pm_31 cd_31 ct_31 oc_16 kV_16 dc_16 pm_16 cd_16 ct_16 oc_37 kV_37 dc_37 pm_37 cd_37 ct_37 oc_32 kV_32 dc_32 pm_32 cd_32 ct_32 oc_22 kV_22 dc_22 pm_22 cd_22 ct_22 oc_23 kV_23 dc_23 pm_23 cd_23 ct_23 oc_33 kV_33 dc_33 pm_33 cd_33 ct_33 oc_34 kV_34 dc_34 pm_34 cd_34 ct_34 oc_44 kV_44 dc_44 pm_44 cd_44 ct_44 : Value} {t_MOST_KEY t_LEAST_SIZE t_MOST_SIZE t_MOST_FACTOR t_LEAST_BITS t_MOST_BITS t_MOST_TOLD t_LEAST_TOLD_COUNT t_MOST_TOLD_COUNT t_LEAST_STEP t_MOST_STEP t_MOST_GROWN : Tok}
  (a_StrewError : PySem.W.nsIn K mainGlobals "StrewError" = some (some (.ref c_StrewError)))
  (a_BadRule : PySem.W.nsIn K mainGlobals "BadRule" = some (some (.ref c_BadRule)))
  (a_BadKey : PySem.W.nsIn K mainGlobals "BadKey" = some (some (.ref c_BadKey)))
  (a_BadSize : PySem.W.nsIn K mainGlobals "BadSize" = some (some (.ref c_BadSize)))
  (a_Full : PySem.W.nsIn K mainGlobals "Full" = some (some (.ref c_Full)))
  (a_TooMany : PySem.W.nsIn K mainGlobals "TooMany" = some (some (.ref c_TooMany)))
  (a_Growing : PySem.W.nsIn K mainGlobals "Growing" = some (some (.ref c_Growing)))
  (z_isinstance : PySem.W.nsIn K mainGlobals "isinstance" = some none)
  (z_bool : PySem.W.nsIn K mainGlobals "bool" = some none)
  (z_int : PySem.W.nsIn K mainGlobals "int" = some none)
  (z_len : PySem.W.nsIn K mainGlobals "len" = some none)
  (z_tuple : PySem.W.nsIn K mainGlobals "tuple" = some none)
  (z_str : PySem.W.nsIn K mainGlobals "str" = some none)
  (z_all : PySem.W.nsIn K mainGlobals "all" = some none)
  (z_sum : PySem.W.nsIn K mainGlobals "sum" = some none)
  (z_max : PySem.W.nsIn K mainGlobals "max" = some none)
  (z_min : PySem.W.nsIn K mainGlobals "min" = some none)
  (z_range : PySem.W.nsIn K mainGlobals "range" = some none)
  (z_list : PySem.W.nsIn K mainGlobals "list" = some none)
  (z_sorted : PySem.W.nsIn K mainGlobals "sorted" = some none)
  (z_ValueError : PySem.W.nsIn K mainGlobals "ValueError" = some none)
  (v_MOST_KEY : PySem.W.nsIn K mainGlobals "MOST_KEY" = some (some (.int 999999 t_MOST_KEY)))
  (v_LEAST_SIZE : PySem.W.nsIn K mainGlobals "LEAST_SIZE" = some (some (.int 2 t_LEAST_SIZE)))
  (v_MOST_SIZE : PySem.W.nsIn K mainGlobals "MOST_SIZE" = some (some (.int 64 t_MOST_SIZE)))
  (v_MOST_FACTOR : PySem.W.nsIn K mainGlobals "MOST_FACTOR" = some (some (.int 999999 t_MOST_FACTOR)))
  (v_LEAST_BITS : PySem.W.nsIn K mainGlobals "LEAST_BITS" = some (some (.int 1 t_LEAST_BITS)))
  (v_MOST_BITS : PySem.W.nsIn K mainGlobals "MOST_BITS" = some (some (.int 30 t_MOST_BITS)))
  (v_MOST_TOLD : PySem.W.nsIn K mainGlobals "MOST_TOLD" = some (some (.int 999 t_MOST_TOLD)))
  (v_LEAST_TOLD_COUNT : PySem.W.nsIn K mainGlobals "LEAST_TOLD_COUNT" = some (some (.int 1 t_LEAST_TOLD_COUNT)))
  (v_MOST_TOLD_COUNT : PySem.W.nsIn K mainGlobals "MOST_TOLD_COUNT" = some (some (.int 64 t_MOST_TOLD_COUNT)))
  (v_LEAST_STEP : PySem.W.nsIn K mainGlobals "LEAST_STEP" = some (some (.int 1 t_LEAST_STEP)))
  (v_MOST_STEP : PySem.W.nsIn K mainGlobals "MOST_STEP" = some (some (.int 4 t_MOST_STEP)))
  (v_MOST_GROWN : PySem.W.nsIn K mainGlobals "MOST_GROWN" = some (some (.int 1024 t_MOST_GROWN)))
  (pg_Growing : PySem.W.plainGet K c_Growing Str.empty = true)
  (hc_Growing : PySem.W.hasDictIn K c_Growing = true)
  (po_Growing : PySem.W.plainOver K c_Growing = true)
  (sa_Growing : PySem.W.findIn K (.ref c_Growing) "__setattr__" = some (some (.builtin "object.__setattr__")))
  (mk_Growing : PySem.W.makesIn K c_Growing = true)
  (kc_Growing : PySem.W.keepIn K (.ref c_Growing) = true)
  (n_Growing_moves_each : PySem.W.findIn K (.ref c_Growing) "moves_each" = some none)
  (n_Growing_moves_so_far : PySem.W.findIn K (.ref c_Growing) "moves_so_far" = some none)
  (n_Growing_newer : PySem.W.findIn K (.ref c_Growing) "newer" = some none)
  (n_Growing_older : PySem.W.findIn K (.ref c_Growing) "older" = some none)
  (n_Growing_rule : PySem.W.findIn K (.ref c_Growing) "rule" = some none)
  (a_43 : PySem.W.nsIn K mainGlobals "power" = some (some (.ref f_43)))
  (l_43 : K.lookup f_43 = some ⟨oc_43, od_43, .func (PySem.W.fnOf "power" "power" (defArgs (top 8)) (defBody (top 8)) (defScope (top 8)) .none kV_43 dc_43 pm_43 an_43 cd_43 ct_43), sl_43⟩)
  (c_43 : PySem.W.codeIn K cd_43 "power" = true)
  (k_43 : PySem.W.keepIn K (.ref f_43) = true)
  (a_35 : PySem.W.nsIn K mainGlobals "is_whole" = some (some (.ref f_35)))
  (l_35 : K.lookup f_35 = some ⟨oc_35, od_35, .func (PySem.W.fnOf "is_whole" "is_whole" (defArgs (top 19)) (defBody (top 19)) (defScope (top 19)) .none kV_35 dc_35 pm_35 an_35 cd_35 ct_35), sl_35⟩)
  (c_35 : PySem.W.codeIn K cd_35 "is_whole" = true)
  (k_35 : PySem.W.keepIn K (.ref f_35) = true)
  (a_6 : PySem.W.nsIn K mainGlobals "is_times_rule" = some (some (.ref f_6)))
  (l_6 : K.lookup f_6 = some ⟨oc_6, od_6, .func (PySem.W.fnOf "is_times_rule" "is_times_rule" (defArgs (top 20)) (defBody (top 20)) (defScope (top 20)) .none kV_6 dc_6 pm_6 an_6 cd_6 ct_6), sl_6⟩)
  (c_6 : PySem.W.codeIn K cd_6 "is_times_rule" = true)
  (k_6 : PySem.W.keepIn K (.ref f_6) = true)
  (a_8 : PySem.W.nsIn K mainGlobals "is_high_rule" = some (some (.ref f_8)))
  (l_8 : K.lookup f_8 = some ⟨oc_8, od_8, .func (PySem.W.fnOf "is_high_rule" "is_high_rule" (defArgs (top 21)) (defBody (top 21)) (defScope (top 21)) .none kV_8 dc_8 pm_8 an_8 cd_8 ct_8), sl_8⟩)
  (c_8 : PySem.W.codeIn K cd_8 "is_high_rule" = true)
  (k_8 : PySem.W.keepIn K (.ref f_8) = true)
  (a_9 : PySem.W.nsIn K mainGlobals "is_told_rule" = some (some (.ref f_9)))
  (l_9 : K.lookup f_9 = some ⟨oc_9, od_9, .func (PySem.W.fnOf "is_told_rule" "is_told_rule" (defArgs (top 22)) (defBody (top 22)) (defScope (top 22)) .none kV_9 dc_9 pm_9 an_9 cd_9 ct_9), sl_9⟩)
  (c_9 : PySem.W.codeIn K cd_9 "is_told_rule" = true)
  (k_9 : PySem.W.keepIn K (.ref f_9) = true)
  (a_38 : PySem.W.nsIn K mainGlobals "is_rule" = some (some (.ref f_38)))
  (l_38 : K.lookup f_38 = some ⟨oc_38, od_38, .func (PySem.W.fnOf "is_rule" "is_rule" (defArgs (top 23)) (defBody (top 23)) (defScope (top 23)) .none kV_38 dc_38 pm_38 an_38 cd_38 ct_38), sl_38⟩)
  (c_38 : PySem.W.codeIn K cd_38 "is_rule" = true)
  (k_38 : PySem.W.keepIn K (.ref f_38) = true)
  (a_17 : PySem.W.nsIn K mainGlobals "check_rule" = some (some (.ref f_17)))
  (l_17 : K.lookup f_17 = some ⟨oc_17, od_17, .func (PySem.W.fnOf "check_rule" "check_rule" (defArgs (top 24)) (defBody (top 24)) (defScope (top 24)) .none kV_17 dc_17 pm_17 an_17 cd_17 ct_17), sl_17⟩)
  (c_17 : PySem.W.codeIn K cd_17 "check_rule" = true)
  (k_17 : PySem.W.keepIn K (.ref f_17) = true)
  (a_24 : PySem.W.nsIn K mainGlobals "check_key" = some (some (.ref f_24)))
  (l_24 : K.lookup f_24 = some ⟨oc_24, od_24, .func (PySem.W.fnOf "check_key" "check_key" (defArgs (top 25)) (defBody (top 25)) (defScope (top 25)) .none kV_24 dc_24 pm_24 an_24 cd_24 ct_24), sl_24⟩)
  (c_24 : PySem.W.codeIn K cd_24 "check_key" = true)
  (k_24 : PySem.W.keepIn K (.ref f_24) = true)
  (a_18 : PySem.W.nsIn K mainGlobals "check_size" = some (some (.ref f_18)))
  (l_18 : K.lookup f_18 = some ⟨oc_18, od_18, .func (PySem.W.fnOf "check_size" "check_size" (defArgs (top 26)) (defBody (top 26)) (defScope (top 26)) .none kV_18 dc_18 pm_18 an_18 cd_18 ct_18), sl_18⟩)
  (c_18 : PySem.W.codeIn K cd_18 "check_size" = true)
  (k_18 : PySem.W.keepIn K (.ref f_18) = true)
  (a_12 : PySem.W.nsIn K mainGlobals "check_count" = some (some (.ref f_12)))
  (l_12 : K.lookup f_12 = some ⟨oc_12, od_12, .func (PySem.W.fnOf "check_count" "check_count" (defArgs (top 27)) (defBody (top 27)) (defScope (top 27)) .none kV_12 dc_12 pm_12 an_12 cd_12 ct_12), sl_12⟩)
  (c_12 : PySem.W.codeIn K cd_12 "check_count" = true)
  (k_12 : PySem.W.keepIn K (.ref f_12) = true)
  (a_13 : PySem.W.nsIn K mainGlobals "reckon_home" = some (some (.ref f_13)))
  (l_13 : K.lookup f_13 = some ⟨oc_13, od_13, .func (PySem.W.fnOf "reckon_home" "reckon_home" (defArgs (top 28)) (defBody (top 28)) (defScope (top 28)) .none kV_13 dc_13 pm_13 an_13 cd_13 ct_13), sl_13⟩)
  (c_13 : PySem.W.codeIn K cd_13 "reckon_home" = true)
  (k_13 : PySem.W.keepIn K (.ref f_13) = true)
  (a_19 : PySem.W.nsIn K mainGlobals "next_place" = some (some (.ref f_19)))
  (l_19 : K.lookup f_19 = some ⟨oc_19, od_19, .func (PySem.W.fnOf "next_place" "next_place" (defArgs (top 30)) (defBody (top 30)) (defScope (top 30)) .none kV_19 dc_19 pm_19 an_19 cd_19 ct_19), sl_19⟩)
  (c_19 : PySem.W.codeIn K cd_19 "next_place" = true)
  (k_19 : PySem.W.keepIn K (.ref f_19) = true)
  (a_40 : PySem.W.nsIn K mainGlobals "way_on" = some (some (.ref f_40)))
  (l_40 : K.lookup f_40 = some ⟨oc_40, od_40, .func (PySem.W.fnOf "way_on" "way_on" (defArgs (top 31)) (defBody (top 31)) (defScope (top 31)) .none kV_40 dc_40 pm_40 an_40 cd_40 ct_40), sl_40⟩)
  (c_40 : PySem.W.codeIn K cd_40 "way_on" = true)
  (k_40 : PySem.W.keepIn K (.ref f_40) = true)
  (a_41 : PySem.W.nsIn K mainGlobals "way_of" = some (some (.ref f_41)))
  (l_41 : K.lookup f_41 = some ⟨oc_41, od_41, .func (PySem.W.fnOf "way_of" "way_of" (defArgs (top 33)) (defBody (top 33)) (defScope (top 33)) .none kV_41 dc_41 pm_41 an_41 cd_41 ct_41), sl_41⟩)
  (c_41 : PySem.W.codeIn K cd_41 "way_of" = true)
  (k_41 : PySem.W.keepIn K (.ref f_41) = true)
  (a_20 : PySem.W.nsIn K mainGlobals "goes_ahead" = some (some (.ref f_20)))
  (l_20 : K.lookup f_20 = some ⟨oc_20, od_20, .func (PySem.W.fnOf "goes_ahead" "goes_ahead" (defArgs (top 34)) (defBody (top 34)) (defScope (top 34)) .none kV_20 dc_20 pm_20 an_20 cd_20 ct_20), sl_20⟩)
  (c_20 : PySem.W.codeIn K cd_20 "goes_ahead" = true)
  (k_20 : PySem.W.keepIn K (.ref f_20) = true)
  (a_25 : PySem.W.nsIn K mainGlobals "last_look" = some (some (.ref f_25)))
  (l_25 : K.lookup f_25 = some ⟨oc_25, od_25, .func (PySem.W.fnOf "last_look" "last_look" (defArgs (top 35)) (defBody (top 35)) (defScope (top 35)) .none kV_25 dc_25 pm_25 an_25 cd_25 ct_25), sl_25⟩)
  (c_25 : PySem.W.codeIn K cd_25 "last_look" = true)
  (k_25 : PySem.W.keepIn K (.ref f_25) = true)
  (a_26 : PySem.W.nsIn K mainGlobals "stands_in" = some (some (.ref f_26)))
  (l_26 : K.lookup f_26 = some ⟨oc_26, od_26, .func (PySem.W.fnOf "stands_in" "stands_in" (defArgs (top 36)) (defBody (top 36)) (defScope (top 36)) .none kV_26 dc_26 pm_26 an_26 cd_26 ct_26), sl_26⟩)
  (c_26 : PySem.W.codeIn K cd_26 "stands_in" = true)
  (k_26 : PySem.W.keepIn K (.ref f_26) = true)
  (a_39 : PySem.W.nsIn K mainGlobals "keys_in" = some (some (.ref f_39)))
  (l_39 : K.lookup f_39 = some ⟨oc_39, od_39, .func (PySem.W.fnOf "keys_in" "keys_in" (defArgs (top 37)) (defBody (top 37)) (defScope (top 37)) .none kV_39 dc_39 pm_39 an_39 cd_39 ct_39), sl_39⟩)
  (c_39 : PySem.W.codeIn K cd_39 "keys_in" = true)
  (k_39 : PySem.W.keepIn K (.ref f_39) = true)
  (a_42 : PySem.W.nsIn K mainGlobals "settle" = some (some (.ref f_42)))
  (l_42 : K.lookup f_42 = some ⟨oc_42, od_42, .func (PySem.W.fnOf "settle" "settle" (defArgs (top 38)) (defBody (top 38)) (defScope (top 38)) .none kV_42 dc_42 pm_42 an_42 cd_42 ct_42), sl_42⟩)
  (c_42 : PySem.W.codeIn K cd_42 "settle" = true)
  (k_42 : PySem.W.keepIn K (.ref f_42) = true)
  (a_36 : PySem.W.nsIn K mainGlobals "take_out" = some (some (.ref f_36)))
  (l_36 : K.lookup f_36 = some ⟨oc_36, od_36, .func (PySem.W.fnOf "take_out" "take_out" (defArgs (top 39)) (defBody (top 39)) (defScope (top 39)) .none kV_36 dc_36 pm_36 an_36 cd_36 ct_36), sl_36⟩)
  (c_36 : PySem.W.codeIn K cd_36 "take_out" = true)
  (k_36 : PySem.W.keepIn K (.ref f_36) = true)
  (a_0 : PySem.W.nsIn K mainGlobals "is_crowded_by_one_more" = some (some (.ref f_0)))
  (l_0 : K.lookup f_0 = some ⟨oc_0, od_0, .func (PySem.W.fnOf "is_crowded_by_one_more" "is_crowded_by_one_more" (defArgs (top 44)) (defBody (top 44)) (defScope (top 44)) .none kV_0 dc_0 pm_0 an_0 cd_0 ct_0), sl_0⟩)
  (c_0 : PySem.W.codeIn K cd_0 "is_crowded_by_one_more" = true)
  (k_0 : PySem.W.keepIn K (.ref f_0) = true)
  (fi_3 : PySem.W.findIn K (.ref c_Growing) "__init__" = some (some (.ref f_3)))
  (fn_3 : PySem.W.isFn K (.ref f_3) = true)
  (l_3 : K.lookup f_3 = some ⟨oc_3, od_3, .func (PySem.W.fnOf "__init__" "Growing.__init__" (defArgs (inClass (top 45) 0)) (defBody (inClass (top 45) 0)) (defScope (inClass (top 45) 0)) .none kV_3 dc_3 pm_3 an_3 cd_3 ct_3), sl_3⟩)
  (c_3 : PySem.W.codeIn K cd_3 "Growing.__init__" = true)
  (k_3 : PySem.W.keepIn K (.ref f_3) = true)
  (fi_1 : PySem.W.findIn K (.ref c_Growing) "move_keys" = some (some (.ref f_1)))
  (fn_1 : PySem.W.isFn K (.ref f_1) = true)
  (l_1 : K.lookup f_1 = some ⟨oc_1, od_1, .func (PySem.W.fnOf "move_keys" "Growing.move_keys" (defArgs (inClass (top 45) 9)) (defBody (inClass (top 45) 9)) (defScope (inClass (top 45) 9)) .none kV_1 dc_1 pm_1 an_1 cd_1 ct_1), sl_1⟩)
  (c_1 : PySem.W.codeIn K cd_1 "Growing.move_keys" = true)
  (k_1 : PySem.W.keepIn K (.ref f_1) = true)
  (fi_4 : PySem.W.findIn K (.ref c_Growing) "row_with" = some (some (.ref f_4)))
  (fn_4 : PySem.W.isFn K (.ref f_4) = true)
  (l_4 : K.lookup f_4 = some ⟨oc_4, od_4, .func (PySem.W.fnOf "row_with" "Growing.row_with" (defArgs (inClass (top 45) 7)) (defBody (inClass (top 45) 7)) (defScope (inClass (top 45) 7)) .none kV_4 dc_4 pm_4 an_4 cd_4 ct_4), sl_4⟩)
  (c_4 : PySem.W.codeIn K cd_4 "Growing.row_with" = true)
  (k_4 : PySem.W.keepIn K (.ref f_4) = true)
  (fi_2 : PySem.W.findIn K (.ref c_Growing) "make_room" = some (some (.ref f_2)))
  (fn_2 : PySem.W.isFn K (.ref f_2) = true)
  (l_2 : K.lookup f_2 = some ⟨oc_2, od_2, .func (PySem.W.fnOf "make_room" "Growing.make_room" (defArgs (inClass (top 45) 8)) (defBody (inClass (top 45) 8)) (defScope (inClass (top 45) 8)) .none kV_2 dc_2 pm_2 an_2 cd_2 ct_2), sl_2⟩)
  (c_2 : PySem.W.codeIn K cd_2 "Growing.make_room" = true)
  (k_2 : PySem.W.keepIn K (.ref f_2) = true)
  (fi_14 : PySem.W.findIn K (.ref c_Growing) "put" = some (some (.ref f_14)))
  (fn_14 : PySem.W.isFn K (.ref f_14) = true)
  (l_14 : K.lookup f_14 = some ⟨oc_14, od_14, .func (PySem.W.fnOf "put" "Growing.put" (defArgs (inClass (top 45) 1)) (defBody (inClass (top 45) 1)) (defScope (inClass (top 45) 1)) .none kV_14 dc_14 pm_14 an_14 cd_14 ct_14), sl_14⟩)
  (c_14 : PySem.W.codeIn K cd_14 "Growing.put" = true)
  (k_14 : PySem.W.keepIn K (.ref f_14) = true)
  (fi_10 : PySem.W.findIn K (.ref c_Growing) "drop" = some (some (.ref f_10)))
  (fn_10 : PySem.W.isFn K (.ref f_10) = true)
  (l_10 : K.lookup f_10 = some ⟨oc_10, od_10, .func (PySem.W.fnOf "drop" "Growing.drop" (defArgs (inClass (top 45) 2)) (defBody (inClass (top 45) 2)) (defScope (inClass (top 45) 2)) .none kV_10 dc_10 pm_10 an_10 cd_10 ct_10), sl_10⟩)
  (c_10 : PySem.W.codeIn K cd_10 "Growing.drop" = true)
  (k_10 : PySem.W.keepIn K (.ref f_10) = true)
  (fi_15 : PySem.W.findIn K (.ref c_Growing) "has" = some (some (.ref f_15)))
  (fn_15 : PySem.W.isFn K (.ref f_15) = true)
  (l_15 : K.lookup f_15 = some ⟨oc_15, od_15, .func (PySem.W.fnOf "has" "Growing.has" (defArgs (inClass (top 45) 3)) (defBody (inClass (top 45) 3)) (defScope (inClass (top 45) 3)) .none kV_15 dc_15 pm_15 an_15 cd_15 ct_15), sl_15⟩)
  (c_15 : PySem.W.codeIn K cd_15 "Growing.has" = true)
  (k_15 : PySem.W.keepIn K (.ref f_15) = true)
  (fi_5 : PySem.W.findIn K (.ref c_Growing) "all_told" = some (some (.ref f_5)))
  (fn_5 : PySem.W.isFn K (.ref f_5) = true)
  (l_5 : K.lookup f_5 = some ⟨oc_5, od_5, .func (PySem.W.fnOf "all_told" "Growing.all_told" (defArgs (inClass (top 45) 4)) (defBody (inClass (top 45) 4)) (defScope (inClass (top 45) 4)) .none kV_5 dc_5 pm_5 an_5 cd_5 ct_5), sl_5⟩)
  (c_5 : PySem.W.codeIn K cd_5 "Growing.all_told" = true)
  (k_5 : PySem.W.keepIn K (.ref f_5) = true)
  (fi_11 : PySem.W.findIn K (.ref c_Growing) "lays" = some (some (.ref f_11)))
  (fn_11 : PySem.W.isFn K (.ref f_11) = true)
  (l_11 : K.lookup f_11 = some ⟨oc_11, od_11, .func (PySem.W.fnOf "lays" "Growing.lays" (defArgs (inClass (top 45) 5)) (defBody (inClass (top 45) 5)) (defScope (inClass (top 45) 5)) .none kV_11 dc_11 pm_11 an_11 cd_11 ct_11), sl_11⟩)
  (c_11 : PySem.W.codeIn K cd_11 "Growing.lays" = true)
  (k_11 : PySem.W.keepIn K (.ref f_11) = true)
  (fi_7 : PySem.W.findIn K (.ref c_Growing) "moved" = some (some (.ref f_7)))
  (fn_7 : PySem.W.isFn K (.ref f_7) = true)
  (l_7 : K.lookup f_7 = some ⟨oc_7, od_7, .func (PySem.W.fnOf "moved" "Growing.moved" (defArgs (inClass (top 45) 6)) (defBody (inClass (top 45) 6)) (defScope (inClass (top 45) 6)) .none kV_7 dc_7 pm_7 an_7 cd_7 ct_7), sl_7⟩)
  (c_7 : PySem.W.codeIn K cd_7 "Growing.moved" = true)
  (k_7 : PySem.W.keepIn K (.ref f_7) = true)
  (a_27 : PySem.W.nsIn K mainGlobals "_law_cell" = some (some (.ref f_27)))
  (l_27 : K.lookup f_27 = some ⟨oc_27, od_27, .func (PySem.W.fnOf "_law_cell" "_law_cell" (defArgs (top 47)) (defBody (top 47)) (defScope (top 47)) .none kV_27 dc_27 pm_27 an_27 cd_27 ct_27), sl_27⟩)
  (c_27 : PySem.W.codeIn K cd_27 "_law_cell" = true)
  (k_27 : PySem.W.keepIn K (.ref f_27) = true)
  (a_21 : PySem.W.nsIn K mainGlobals "_law_drawn" = some (some (.ref f_21)))
  (l_21 : K.lookup f_21 = some ⟨oc_21, od_21, .func (PySem.W.fnOf "_law_drawn" "_law_drawn" (defArgs (top 48)) (defBody (top 48)) (defScope (top 48)) .none kV_21 dc_21 pm_21 an_21 cd_21 ct_21), sl_21⟩)
  (c_21 : PySem.W.codeIn K cd_21 "_law_drawn" = true)
  (k_21 : PySem.W.keepIn K (.ref f_21) = true)
  (a_28 : PySem.W.nsIn K mainGlobals "_law_word" = some (some (.ref f_28)))
  (l_28 : K.lookup f_28 = some ⟨oc_28, od_28, .func (PySem.W.fnOf "_law_word" "_law_word" (defArgs (top 49)) (defBody (top 49)) (defScope (top 49)) .none kV_28 dc_28 pm_28 an_28 cd_28 ct_28), sl_28⟩)
  (c_28 : PySem.W.codeIn K cd_28 "_law_word" = true)
  (k_28 : PySem.W.keepIn K (.ref f_28) = true)
  (a_29 : PySem.W.nsIn K mainGlobals "_law_rule" = some (some (.ref f_29)))
  (l_29 : K.lookup f_29 = some ⟨oc_29, od_29, .func (PySem.W.fnOf "_law_rule" "_law_rule" (defArgs (top 50)) (defBody (top 50)) (defScope (top 50)) .none kV_29 dc_29 pm_29 an_29 cd_29 ct_29), sl_29⟩)
  (c_29 : PySem.W.codeIn K cd_29 "_law_rule" = true)
  (k_29 : PySem.W.keepIn K (.ref f_29) = true)
  (a_30 : PySem.W.nsIn K mainGlobals "_law_home" = some (some (.ref f_30)))
  (l_30 : K.lookup f_30 = some ⟨oc_30, od_30, .func (PySem.W.fnOf "_law_home" "_law_home" (defArgs (top 51)) (defBody (top 51)) (defScope (top 51)) .none kV_30 dc_30 pm_30 an_30 cd_30 ct_30), sl_30⟩)
  (c_30 : PySem.W.codeIn K cd_30 "_law_home" = true)
  (k_30 : PySem.W.keepIn K (.ref f_30) = true)
  (a_31 : PySem.W.nsIn K mainGlobals "_law_keys" = some (some (.ref f_31)))
  (l_31 : K.lookup f_31 = some ⟨oc_31, od_31, .func (PySem.W.fnOf "_law_keys" "_law_keys" (defArgs (top 52)) (defBody (top 52)) (defScope (top 52)) .none kV_31 dc_31 pm_31 an_31 cd_31 ct_31), sl_31⟩)
  (c_31 : PySem.W.codeIn K cd_31 "_law_keys" = true)
  (k_31 : PySem.W.keepIn K (.ref f_31) = true)
  (a_16 : PySem.W.nsIn K mainGlobals "_law_filled" = some (some (.ref f_16)))
  (l_16 : K.lookup f_16 = some ⟨oc_16, od_16, .func (PySem.W.fnOf "_law_filled" "_law_filled" (defArgs (top 53)) (defBody (top 53)) (defScope (top 53)) .none kV_16 dc_16 pm_16 an_16 cd_16 ct_16), sl_16⟩)
  (c_16 : PySem.W.codeIn K cd_16 "_law_filled" = true)
  (k_16 : PySem.W.keepIn K (.ref f_16) = true)
  (a_37 : PySem.W.nsIn K mainGlobals "_law_lay" = some (some (.ref f_37)))
  (l_37 : K.lookup f_37 = some ⟨oc_37, od_37, .func (PySem.W.fnOf "_law_lay" "_law_lay" (defArgs (top 54)) (defBody (top 54)) (defScope (top 54)) .none kV_37 dc_37 pm_37 an_37 cd_37 ct_37), sl_37⟩)
  (c_37 : PySem.W.codeIn K cd_37 "_law_lay" = true)
  (k_37 : PySem.W.keepIn K (.ref f_37) = true)
  (a_32 : PySem.W.nsIn K mainGlobals "_law_told" = some (some (.ref f_32)))
  (l_32 : K.lookup f_32 = some ⟨oc_32, od_32, .func (PySem.W.fnOf "_law_told" "_law_told" (defArgs (top 55)) (defBody (top 55)) (defScope (top 55)) .none kV_32 dc_32 pm_32 an_32 cd_32 ct_32), sl_32⟩)
  (c_32 : PySem.W.codeIn K cd_32 "_law_told" = true)
  (k_32 : PySem.W.keepIn K (.ref f_32) = true)
  (a_22 : PySem.W.nsIn K mainGlobals "_law_tried" = some (some (.ref f_22)))
  (l_22 : K.lookup f_22 = some ⟨oc_22, od_22, .func (PySem.W.fnOf "_law_tried" "_law_tried" (defArgs (top 56)) (defBody (top 56)) (defScope (top 56)) .none kV_22 dc_22 pm_22 an_22 cd_22 ct_22), sl_22⟩)
  (c_22 : PySem.W.codeIn K cd_22 "_law_tried" = true)
  (k_22 : PySem.W.keepIn K (.ref f_22) = true)
  (a_23 : PySem.W.nsIn K mainGlobals "_law_moved" = some (some (.ref f_23)))
  (l_23 : K.lookup f_23 = some ⟨oc_23, od_23, .func (PySem.W.fnOf "_law_moved" "_law_moved" (defArgs (top 57)) (defBody (top 57)) (defScope (top 57)) .none kV_23 dc_23 pm_23 an_23 cd_23 ct_23), sl_23⟩)
  (c_23 : PySem.W.codeIn K cd_23 "_law_moved" = true)
  (k_23 : PySem.W.keepIn K (.ref f_23) = true)
  (a_33 : PySem.W.nsIn K mainGlobals "_law_done" = some (some (.ref f_33)))
  (l_33 : K.lookup f_33 = some ⟨oc_33, od_33, .func (PySem.W.fnOf "_law_done" "_law_done" (defArgs (top 58)) (defBody (top 58)) (defScope (top 58)) .none kV_33 dc_33 pm_33 an_33 cd_33 ct_33), sl_33⟩)
  (c_33 : PySem.W.codeIn K cd_33 "_law_done" = true)
  (k_33 : PySem.W.keepIn K (.ref f_33) = true)
  (a_34 : PySem.W.nsIn K mainGlobals "_law_lays" = some (some (.ref f_34)))
  (l_34 : K.lookup f_34 = some ⟨oc_34, od_34, .func (PySem.W.fnOf "_law_lays" "_law_lays" (defArgs (top 59)) (defBody (top 59)) (defScope (top 59)) .none kV_34 dc_34 pm_34 an_34 cd_34 ct_34), sl_34⟩)
  (c_34 : PySem.W.codeIn K cd_34 "_law_lays" = true)
  (k_34 : PySem.W.keepIn K (.ref f_34) = true)
  (a_44 : PySem.W.nsIn K mainGlobals "law" = some (some (.ref f_44)))
  (l_44 : K.lookup f_44 = some ⟨oc_44, od_44, .func (PySem.W.fnOf "law" "law" (defArgs (top 60)) (defBody (top 60)) (defScope (top 60)) .none kV_44 dc_44 pm_44 an_44 cd_44 ct_44), sl_44⟩)
  (c_44 : PySem.W.codeIn K cd_44 "law" = true)
  (k_44 : PySem.W.keepIn K (.ref f_44) = true)
  (x_StrewError : PySem.W.excIn K c_StrewError veB "ValueError.__new__" = true)
  (x_BadRule : PySem.W.excIn K c_BadRule veB "ValueError.__new__" = true)
  (x_BadKey : PySem.W.excIn K c_BadKey veB "ValueError.__new__" = true)
  (x_BadSize : PySem.W.excIn K c_BadSize veB "ValueError.__new__" = true)
  (x_Full : PySem.W.excIn K c_Full veB "ValueError.__new__" = true)
  (x_TooMany : PySem.W.excIn K c_TooMany veB "ValueError.__new__" = true)
  (ga0 : PySem.W.findIn K (.ref c_BadRule) "__getattribute__" = some (some (.builtin "BaseException.__getattribute__")))
  (na0 : PySem.W.findIn K (.ref c_BadRule) "__getattr__" = some none)
  (ca0 : PySem.W.findIn K (.ref c_BadRule) "__class__" = some (some (.builtin "object.__class__")))
  (mo0 : PySem.W.mroIn K c_BadRule (.type "object") = some true)
  (mb0 : PySem.W.mroIn K c_BadRule (.type "BaseException") = some true)
  (hd0 : PySem.W.hasDictIn K c_BadRule = true)
  (ex0 : PySem.W.exmOne K (.ref c_BadRule) (.ref c_StrewError) = some true)
  (q00 : PySem.W.kitOne K (.ref c_BadRule) (.ref c_BadRule) = some true)
  (q01 : PySem.W.kitOne K (.ref c_BadRule) (.ref c_BadKey) = some false)
  (q02 : PySem.W.kitOne K (.ref c_BadRule) (.ref c_BadSize) = some false)
  (q03 : PySem.W.kitOne K (.ref c_BadRule) (.ref c_Full) = some false)
  (q04 : PySem.W.kitOne K (.ref c_BadRule) (.ref c_TooMany) = some false)
  (ve0 : PySem.W.kitOne K (.ref c_BadRule) (.type "ValueError") = some true)
  (ga1 : PySem.W.findIn K (.ref c_BadKey) "__getattribute__" = some (some (.builtin "BaseException.__getattribute__")))
  (na1 : PySem.W.findIn K (.ref c_BadKey) "__getattr__" = some none)
  (ca1 : PySem.W.findIn K (.ref c_BadKey) "__class__" = some (some (.builtin "object.__class__")))
  (mo1 : PySem.W.mroIn K c_BadKey (.type "object") = some true)
  (mb1 : PySem.W.mroIn K c_BadKey (.type "BaseException") = some true)
  (hd1 : PySem.W.hasDictIn K c_BadKey = true)
  (ex1 : PySem.W.exmOne K (.ref c_BadKey) (.ref c_StrewError) = some true)
  (q10 : PySem.W.kitOne K (.ref c_BadKey) (.ref c_BadRule) = some false)
  (q11 : PySem.W.kitOne K (.ref c_BadKey) (.ref c_BadKey) = some true)
  (q12 : PySem.W.kitOne K (.ref c_BadKey) (.ref c_BadSize) = some false)
  (q13 : PySem.W.kitOne K (.ref c_BadKey) (.ref c_Full) = some false)
  (q14 : PySem.W.kitOne K (.ref c_BadKey) (.ref c_TooMany) = some false)
  (ve1 : PySem.W.kitOne K (.ref c_BadKey) (.type "ValueError") = some true)
  (ga2 : PySem.W.findIn K (.ref c_BadSize) "__getattribute__" = some (some (.builtin "BaseException.__getattribute__")))
  (na2 : PySem.W.findIn K (.ref c_BadSize) "__getattr__" = some none)
  (ca2 : PySem.W.findIn K (.ref c_BadSize) "__class__" = some (some (.builtin "object.__class__")))
  (mo2 : PySem.W.mroIn K c_BadSize (.type "object") = some true)
  (mb2 : PySem.W.mroIn K c_BadSize (.type "BaseException") = some true)
  (hd2 : PySem.W.hasDictIn K c_BadSize = true)
  (ex2 : PySem.W.exmOne K (.ref c_BadSize) (.ref c_StrewError) = some true)
  (q20 : PySem.W.kitOne K (.ref c_BadSize) (.ref c_BadRule) = some false)
  (q21 : PySem.W.kitOne K (.ref c_BadSize) (.ref c_BadKey) = some false)
  (q22 : PySem.W.kitOne K (.ref c_BadSize) (.ref c_BadSize) = some true)
  (q23 : PySem.W.kitOne K (.ref c_BadSize) (.ref c_Full) = some false)
  (q24 : PySem.W.kitOne K (.ref c_BadSize) (.ref c_TooMany) = some false)
  (ve2 : PySem.W.kitOne K (.ref c_BadSize) (.type "ValueError") = some true)
  (ga3 : PySem.W.findIn K (.ref c_Full) "__getattribute__" = some (some (.builtin "BaseException.__getattribute__")))
  (na3 : PySem.W.findIn K (.ref c_Full) "__getattr__" = some none)
  (ca3 : PySem.W.findIn K (.ref c_Full) "__class__" = some (some (.builtin "object.__class__")))
  (mo3 : PySem.W.mroIn K c_Full (.type "object") = some true)
  (mb3 : PySem.W.mroIn K c_Full (.type "BaseException") = some true)
  (hd3 : PySem.W.hasDictIn K c_Full = true)
  (ex3 : PySem.W.exmOne K (.ref c_Full) (.ref c_StrewError) = some true)
  (q30 : PySem.W.kitOne K (.ref c_Full) (.ref c_BadRule) = some false)
  (q31 : PySem.W.kitOne K (.ref c_Full) (.ref c_BadKey) = some false)
  (q32 : PySem.W.kitOne K (.ref c_Full) (.ref c_BadSize) = some false)
  (q33 : PySem.W.kitOne K (.ref c_Full) (.ref c_Full) = some true)
  (q34 : PySem.W.kitOne K (.ref c_Full) (.ref c_TooMany) = some false)
  (ve3 : PySem.W.kitOne K (.ref c_Full) (.type "ValueError") = some true)
  (ga4 : PySem.W.findIn K (.ref c_TooMany) "__getattribute__" = some (some (.builtin "BaseException.__getattribute__")))
  (na4 : PySem.W.findIn K (.ref c_TooMany) "__getattr__" = some none)
  (ca4 : PySem.W.findIn K (.ref c_TooMany) "__class__" = some (some (.builtin "object.__class__")))
  (mo4 : PySem.W.mroIn K c_TooMany (.type "object") = some true)
  (mb4 : PySem.W.mroIn K c_TooMany (.type "BaseException") = some true)
  (hd4 : PySem.W.hasDictIn K c_TooMany = true)
  (ex4 : PySem.W.exmOne K (.ref c_TooMany) (.ref c_StrewError) = some true)
  (q40 : PySem.W.kitOne K (.ref c_TooMany) (.ref c_BadRule) = some false)
  (q41 : PySem.W.kitOne K (.ref c_TooMany) (.ref c_BadKey) = some false)
  (q42 : PySem.W.kitOne K (.ref c_TooMany) (.ref c_BadSize) = some false)
  (q43 : PySem.W.kitOne K (.ref c_TooMany) (.ref c_Full) = some false)
  (q44 : PySem.W.kitOne K (.ref c_TooMany) (.ref c_TooMany) = some true)
  (ve4 : PySem.W.kitOne K (.ref c_TooMany) (.type "ValueError") = some true)
  (cg : PySem.W.specialIn K (.builtin "object.__class__") "__get__" = some (some (.builtin "getset_descriptor.__get__")))
  (ct : PySem.W.takesIn K (.builtin "object.__class__") = some true)
  : ∃ fd : FuncData, (∀ (s : Shared) (v : Value), BindsTo s fd ⟨[v], []⟩ [("_law_script", v)]) ∧ ∀ base : Heap, K.In base → base.Ns mainGlobals mg → FnOk l.prog w K mg base (CX1 l.prog w) true 10 fa fd ["_law_script"] (spLaw K) := by
 have e := hfa.symm.trans (PySem.W.mg_of X G a_44)
 cases e
 let cl : CN → Addr := fun n => match n with | .StrewError => c_StrewError | .BadRule => c_BadRule | .BadKey => c_BadKey | .BadSize => c_BadSize | .Full => c_Full | .TooMany => c_TooMany | .Growing => c_Growing | _ => 0
 have T : Tx K mg cl := ⟨PySem.W.mg_none_of X G z_isinstance, PySem.W.mg_none_of X G z_bool, PySem.W.mg_none_of X G z_int, PySem.W.mg_none_of X G z_len, PySem.W.mg_none_of X G z_tuple, PySem.W.mg_none_of X G z_str, PySem.W.mg_none_of X G z_all, PySem.W.mg_none_of X G z_sum, PySem.W.mg_none_of X G z_max, PySem.W.mg_none_of X G z_min, PySem.W.mg_none_of X G z_range, PySem.W.mg_none_of X G z_list, PySem.W.mg_none_of X G z_sorted, PySem.W.mg_none_of X G z_ValueError, ⟨_, PySem.W.mg_of X G v_MOST_KEY, ⟨_, rfl⟩⟩, ⟨_, PySem.W.mg_of X G v_LEAST_SIZE, ⟨_, rfl⟩⟩, ⟨_, PySem.W.mg_of X G v_MOST_SIZE, ⟨_, rfl⟩⟩, ⟨_, PySem.W.mg_of X G v_MOST_FACTOR, ⟨_, rfl⟩⟩, ⟨_, PySem.W.mg_of X G v_LEAST_BITS, ⟨_, rfl⟩⟩, ⟨_, PySem.W.mg_of X G v_MOST_BITS, ⟨_, rfl⟩⟩, ⟨_, PySem.W.mg_of X G v_MOST_TOLD, ⟨_, rfl⟩⟩, ⟨_, PySem.W.mg_of X G v_LEAST_TOLD_COUNT, ⟨_, rfl⟩⟩, ⟨_, PySem.W.mg_of X G v_MOST_TOLD_COUNT, ⟨_, rfl⟩⟩, ⟨_, PySem.W.mg_of X G v_LEAST_STEP, ⟨_, rfl⟩⟩, ⟨_, PySem.W.mg_of X G v_MOST_STEP, ⟨_, rfl⟩⟩, ⟨_, PySem.W.mg_of X G v_MOST_GROWN, ⟨_, rfl⟩⟩, PySem.W.mg_of X G a_StrewError, x_StrewError, PySem.W.mg_of X G a_BadRule, x_BadRule, PySem.W.mg_of X G a_BadKey, x_BadKey, PySem.W.mg_of X G a_BadSize, x_BadSize, PySem.W.mg_of X G a_Full, x_Full, PySem.W.mg_of X G a_TooMany, x_TooMany, ⟨⟨ga0, na0, ca0, cg, ct, mo0, mb0, hd0⟩, ex0, q00, q01, q02, q03, q04, ve0⟩, ⟨⟨ga1, na1, ca1, cg, ct, mo1, mb1, hd1⟩, ex1, q10, q11, q12, q13, q14, ve1⟩, ⟨⟨ga2, na2, ca2, cg, ct, mo2, mb2, hd2⟩, ex2, q20, q21, q22, q23, q24, ve2⟩, ⟨⟨ga3, na3, ca3, cg, ct, mo3, mb3, hd3⟩, ex3, q30, q31, q32, q33, q34, ve3⟩, ⟨⟨ga4, na4, ca4, cg, ct, mo4, mb4, hd4⟩, ex4, q40, q41, q42, q43, q44, ve4⟩, n_Growing_moves_each, n_Growing_moves_so_far, n_Growing_newer, n_Growing_older, n_Growing_rule, ⟨pg_Growing, hc_Growing, po_Growing, sa_Growing⟩, PySem.W.mg_of X G a_Growing⟩
 have F_43 := fun_mk (st := top 8) l_43 c_43 k_43
 have b_43 := F_43.binds (ps := ["base", "exponent"]) fun _ _ _ _ _ _ => ln2 fun _ _ => rfl
 have F_35 := fun_mk (st := top 19) l_35 c_35 k_35
 have b_35 := F_35.binds (ps := ["thing", "least", "most"]) fun _ _ _ _ _ _ => ln3 fun _ _ _ => rfl
 have F_6 := fun_mk (st := top 20) l_6 c_6 k_6
 have b_6 := F_6.binds (ps := ["rule"]) fun _ _ _ _ _ _ => ln1 fun _ => rfl
 have F_8 := fun_mk (st := top 21) l_8 c_8 k_8
 have b_8 := F_8.binds (ps := ["rule"]) fun _ _ _ _ _ _ => ln1 fun _ => rfl
 have F_9 := fun_mk (st := top 22) l_9 c_9 k_9
 have b_9 := F_9.binds (ps := ["rule"]) fun _ _ _ _ _ _ => ln1 fun _ => rfl
 have F_38 := fun_mk (st := top 23) l_38 c_38 k_38
 have b_38 := F_38.binds (ps := ["thing"]) fun _ _ _ _ _ _ => ln1 fun _ => rfl
 have F_17 := fun_mk (st := top 24) l_17 c_17 k_17
 have b_17 := F_17.binds (ps := ["rule"]) fun _ _ _ _ _ _ => ln1 fun _ => rfl
 have F_24 := fun_mk (st := top 25) l_24 c_24 k_24
 have b_24 := F_24.binds (ps := ["key"]) fun _ _ _ _ _ _ => ln1 fun _ => rfl
 have F_18 := fun_mk (st := top 26) l_18 c_18 k_18
 have b_18 := F_18.binds (ps := ["size"]) fun _ _ _ _ _ _ => ln1 fun _ => rfl
 have F_12 := fun_mk (st := top 27) l_12 c_12 k_12
 have b_12 := F_12.binds (ps := ["count", "least", "most"]) fun _ _ _ _ _ _ => ln3 fun _ _ _ => rfl
 have F_13 := fun_mk (st := top 28) l_13 c_13 k_13
 have b_13 := F_13.binds (ps := ["rule", "key", "size"]) fun _ _ _ _ _ _ => ln3 fun _ _ _ => rfl
 have F_19 := fun_mk (st := top 30) l_19 c_19 k_19
 have b_19 := F_19.binds (ps := ["place", "size"]) fun _ _ _ _ _ _ => ln2 fun _ _ => rfl
 have F_40 := fun_mk (st := top 31) l_40 c_40 k_40
 have b_40 := F_40.binds (ps := ["start", "place", "size"]) fun _ _ _ _ _ _ => ln3 fun _ _ _ => rfl
 have F_41 := fun_mk (st := top 33) l_41 c_41 k_41
 have b_41 := F_41.binds (ps := ["rule", "key", "place", "size"]) fun _ _ _ _ _ _ => ln4 fun _ _ _ _ => rfl
 have F_20 := fun_mk (st := top 34) l_20 c_20 k_20
 have b_20 := F_20.binds (ps := ["rule", "one", "other", "place", "size"]) fun _ _ _ _ _ _ => ln5 fun _ _ _ _ _ => rfl
 have F_25 := fun_mk (st := top 35) l_25 c_25 k_25
 have b_25 := F_25.binds (ps := ["rule", "places", "key"]) fun _ _ _ _ _ _ => ln3 fun _ _ _ => rfl
 have F_26 := fun_mk (st := top 36) l_26 c_26 k_26
 have b_26 := F_26.binds (ps := ["rule", "places", "key"]) fun _ _ _ _ _ _ => ln3 fun _ _ _ => rfl
 have F_39 := fun_mk (st := top 37) l_39 c_39 k_39
 have b_39 := F_39.binds (ps := ["places"]) fun _ _ _ _ _ _ => ln1 fun _ => rfl
 have F_42 := fun_mk (st := top 38) l_42 c_42 k_42
 have b_42 := F_42.binds (ps := ["rule", "places", "key"]) fun _ _ _ _ _ _ => ln3 fun _ _ _ => rfl
 have F_36 := fun_mk (st := top 39) l_36 c_36 k_36
 have b_36 := F_36.binds (ps := ["rule", "places", "key"]) fun _ _ _ _ _ _ => ln3 fun _ _ _ => rfl
 have F_0 := fun_mk (st := top 44) l_0 c_0 k_0
 have b_0 := F_0.binds (ps := ["places"]) fun _ _ _ _ _ _ => ln1 fun _ => rfl
 have F_3 := fun_mk (st := inClass (top 45) 0) l_3 c_3 k_3
 have b_3 := F_3.binds (ps := ["self", "rule", "size", "step"]) fun _ _ _ _ _ _ => ln4 fun _ _ _ _ => rfl
 have F_1 := fun_mk (st := inClass (top 45) 9) l_1 c_1 k_1
 have b_1 := F_1.binds (ps := ["self"]) fun _ _ _ _ _ _ => ln1 fun _ => rfl
 have F_4 := fun_mk (st := inClass (top 45) 7) l_4 c_4 k_4
 have b_4 := F_4.binds (ps := ["self", "key"]) fun _ _ _ _ _ _ => ln2 fun _ _ => rfl
 have F_2 := fun_mk (st := inClass (top 45) 8) l_2 c_2 k_2
 have b_2 := F_2.binds (ps := ["self"]) fun _ _ _ _ _ _ => ln1 fun _ => rfl
 have F_14 := fun_mk (st := inClass (top 45) 1) l_14 c_14 k_14
 have b_14 := F_14.binds (ps := ["self", "key"]) fun _ _ _ _ _ _ => ln2 fun _ _ => rfl
 have F_10 := fun_mk (st := inClass (top 45) 2) l_10 c_10 k_10
 have b_10 := F_10.binds (ps := ["self", "key"]) fun _ _ _ _ _ _ => ln2 fun _ _ => rfl
 have F_15 := fun_mk (st := inClass (top 45) 3) l_15 c_15 k_15
 have b_15 := F_15.binds (ps := ["self", "key"]) fun _ _ _ _ _ _ => ln2 fun _ _ => rfl
 have F_5 := fun_mk (st := inClass (top 45) 4) l_5 c_5 k_5
 have b_5 := F_5.binds (ps := ["self"]) fun _ _ _ _ _ _ => ln1 fun _ => rfl
 have F_11 := fun_mk (st := inClass (top 45) 5) l_11 c_11 k_11
 have b_11 := F_11.binds (ps := ["self"]) fun _ _ _ _ _ _ => ln1 fun _ => rfl
 have F_7 := fun_mk (st := inClass (top 45) 6) l_7 c_7 k_7
 have b_7 := F_7.binds (ps := ["self"]) fun _ _ _ _ _ _ => ln1 fun _ => rfl
 have F_27 := fun_mk (st := top 47) l_27 c_27 k_27
 have b_27 := F_27.binds (ps := ["_law_script", "_law_k"]) fun _ _ _ _ _ _ => ln2 fun _ _ => rfl
 have F_21 := fun_mk (st := top 48) l_21 c_21 k_21
 have b_21 := F_21.binds (ps := ["_law_cell_here", "_law_k"]) fun _ _ _ _ _ _ => ln2 fun _ _ => rfl
 have F_28 := fun_mk (st := top 49) l_28 c_28 k_28
 have b_28 := F_28.binds (ps := ["_law_e"]) fun _ _ _ _ _ _ => ln1 fun _ => rfl
 have F_29 := fun_mk (st := top 50) l_29 c_29 k_29
 have b_29 := F_29.binds (ps := ["_law_more"]) fun _ _ _ _ _ _ => ln1 fun _ => rfl
 have F_30 := fun_mk (st := top 51) l_30 c_30 k_30
 have b_30 := F_30.binds (ps := ["_law_rule_here", "_law_key", "_law_size"]) fun _ _ _ _ _ _ => ln3 fun _ _ _ => rfl
 have F_31 := fun_mk (st := top 52) l_31 c_31 k_31
 have b_31 := F_31.binds (ps := ["_law_more", "_law_many"]) fun _ _ _ _ _ _ => ln2 fun _ _ => rfl
 have F_16 := fun_mk (st := top 53) l_16 c_16 k_16
 have b_16 := F_16.binds (ps := ["_law_homes", "_law_size"]) fun _ _ _ _ _ _ => ln2 fun _ _ => rfl
 have F_37 := fun_mk (st := top 54) l_37 c_37 k_37
 have b_37 := F_37.binds (ps := ["_law_rule_here", "_law_size", "_law_keys_here"]) fun _ _ _ _ _ _ => ln3 fun _ _ _ => rfl
 have F_32 := fun_mk (st := top 55) l_32 c_32 k_32
 have b_32 := F_32.binds (ps := ["_law_table", "_law_way", "_law_key"]) fun _ _ _ _ _ _ => ln3 fun _ _ _ => rfl
 have F_22 := fun_mk (st := top 56) l_22 c_22 k_22
 have b_22 := F_22.binds (ps := ["_law_rule_here", "_law_size", "_law_step"]) fun _ _ _ _ _ _ => ln3 fun _ _ _ => rfl
 have F_23 := fun_mk (st := top 57) l_23 c_23 k_23
 have b_23 := F_23.binds (ps := ["_law_own"]) fun _ _ _ _ _ _ => ln1 fun _ => rfl
 have F_33 := fun_mk (st := top 58) l_33 c_33 k_33
 have b_33 := F_33.binds (ps := ["_law_own", "_law_way", "_law_key"]) fun _ _ _ _ _ _ => ln3 fun _ _ _ => rfl
 have F_34 := fun_mk (st := top 59) l_34 c_34 k_34
 have b_34 := F_34.binds (ps := ["_law_rule_here", "_law_own"]) fun _ _ _ _ _ _ => ln2 fun _ _ => rfl
 have F_44 := fun_mk (st := top 60) l_44 c_44 k_44
 have b_44 := F_44.binds (ps := ["_law_script"]) fun _ _ _ _ _ _ => ln1 fun _ => rfl
 refine ⟨PySem.W.fnOf "law" "law" (defArgs (top 60)) (defBody (top 60)) (defScope (top 60)) .none kV_44 dc_44 pm_44 an_44 cd_44 ct_44, fun s v => .of_eq rfl, fun base _ _ => ?_⟩
 have O_43 : Own l.prog w K mg base true 1 "power" ["base", "exponent"] (spPow) := ⟨f_43, _, ok_power F_43 T, b_43, k_43, PySem.W.mg_of X G a_43⟩
 have O_35 : Own l.prog w K mg base true 1 "is_whole" ["thing", "least", "most"] (spWhole) := ⟨f_35, _, ok_is_whole F_35 T, b_35, k_35, PySem.W.mg_of X G a_35⟩
 have O_6 : Own l.prog w K mg base true 2 "is_times_rule" ["rule"] (spTimes) := ⟨f_6, _, ok_is_times_rule F_6 T O_35, b_6, k_6, PySem.W.mg_of X G a_6⟩
 have O_8 : Own l.prog w K mg base true 2 "is_high_rule" ["rule"] (spHigh) := ⟨f_8, _, ok_is_high_rule F_8 T O_35, b_8, k_8, PySem.W.mg_of X G a_8⟩
 have O_9 : Own l.prog w K mg base true 2 "is_told_rule" ["rule"] (spTold) := ⟨f_9, _, ok_is_told_rule F_9 T O_35, b_9, k_9, PySem.W.mg_of X G a_9⟩
 have O_38 : Own l.prog w K mg base true 3 "is_rule" ["thing"] (spIsRule) := ⟨f_38, _, ok_is_rule F_38 T O_6 O_8 O_9, b_38, k_38, PySem.W.mg_of X G a_38⟩
 have O_17 : Own l.prog w K mg base true 4 "check_rule" ["rule"] (spCheckRule (cl .BadRule)) := ⟨f_17, _, ok_check_rule F_17 T O_38, b_17, k_17, PySem.W.mg_of X G a_17⟩
 have O_24 : Own l.prog w K mg base true 2 "check_key" ["key"] (spCheckKey (cl .BadKey)) := ⟨f_24, _, ok_check_key F_24 T O_35, b_24, k_24, PySem.W.mg_of X G a_24⟩
 have O_18 : Own l.prog w K mg base true 2 "check_size" ["size"] (spCheckSize (cl .BadSize)) := ⟨f_18, _, ok_check_size F_18 T O_35, b_18, k_18, PySem.W.mg_of X G a_18⟩
 have O_12 : Own l.prog w K mg base true 2 "check_count" ["count", "least", "most"] (spCheckCount (cl .BadSize)) := ⟨f_12, _, ok_check_count F_12 T O_35, b_12, k_12, PySem.W.mg_of X G a_12⟩
 have O_13 : Own l.prog w K mg base true 2 "reckon_home" ["rule", "key", "size"] (spReckon) := ⟨f_13, _, ok_reckon_home F_13 T O_43, b_13, k_13, PySem.W.mg_of X G a_13⟩
 have O_19 : Own l.prog w K mg base true 1 "next_place" ["place", "size"] (spNext) := ⟨f_19, _, ok_next_place F_19 T, b_19, k_19, PySem.W.mg_of X G a_19⟩
 have O_40 : Own l.prog w K mg base true 1 "way_on" ["start", "place", "size"] (spWayOn) := ⟨f_40, _, ok_way_on F_40 T, b_40, k_40, PySem.W.mg_of X G a_40⟩
 have O_41 : Own l.prog w K mg base true 3 "way_of" ["rule", "key", "place", "size"] (spWayOf) := ⟨f_41, _, ok_way_of F_41 T O_13 O_40, b_41, k_41, PySem.W.mg_of X G a_41⟩
 have O_20 : Own l.prog w K mg base true 4 "goes_ahead" ["rule", "one", "other", "place", "size"] (spAhead) := ⟨f_20, _, ok_goes_ahead F_20 T O_41, b_20, k_20, PySem.W.mg_of X G a_20⟩
 have O_25 : Own l.prog w K mg base true 5 "last_look" ["rule", "places", "key"] (spLook) := ⟨f_25, _, ok_last_look F_25 T O_13 O_19 O_20, b_25, k_25, PySem.W.mg_of X G a_25⟩
 have O_26 : Own l.prog w K mg base true 6 "stands_in" ["rule", "places", "key"] (spStands) := ⟨f_26, _, ok_stands_in F_26 T O_25, b_26, k_26, PySem.W.mg_of X G a_26⟩
 have O_39 : Own l.prog w K mg base true 1 "keys_in" ["places"] (spKeysIn) := ⟨f_39, _, ok_keys_in F_39 T, b_39, k_39, PySem.W.mg_of X G a_39⟩
 have O_42 : Own l.prog w K mg base true 6 "settle" ["rule", "places", "key"] (spSettle) := ⟨f_42, _, ok_settle F_42 T O_19 O_25, b_42, k_42, PySem.W.mg_of X G a_42⟩
 have O_36 : Own l.prog w K mg base true 6 "take_out" ["rule", "places", "key"] (spTakeOut) := ⟨f_36, _, ok_take_out F_36 T O_19 O_41 O_25, b_36, k_36, PySem.W.mg_of X G a_36⟩
 have O_0 : Own l.prog w K mg base true 2 "is_crowded_by_one_more" ["places"] (spCrowd) := ⟨f_0, _, ok_is_crowded_by_one_more F_0 T O_39, b_0, k_0, PySem.W.mg_of X G a_0⟩
 have O_3 : OwnC l.prog w K mg base true 5 (cl .Growing) ["self", "rule", "size", "step"] (spGNew (cl .Growing) (cl .BadRule) (cl .BadSize)) := ⟨⟨f_3, _, ok_Growing___init__ F_3 T O_17 O_18 O_12, b_3, ⟨mk_Growing, fi_3, fn_3, kc_Growing⟩⟩⟩
 have O_1 : OwnM l.prog w K mg base true 7 (cl .Growing) "move_keys" ["self"] (spMoveKeys (cl .Growing)) := ⟨⟨f_1, _, ok_Growing_move_keys F_1 T O_39 O_42 O_36, b_1, ⟨fi_1, fn_1, k_1⟩⟩⟩
 have O_4 : OwnM l.prog w K mg base true 7 (cl .Growing) "row_with" ["self", "key"] (spRowWith (cl .Growing)) := ⟨⟨f_4, _, ok_Growing_row_with F_4 T O_26, b_4, ⟨fi_4, fn_4, k_4⟩⟩⟩
 have O_2 : OwnM l.prog w K mg base true 3 (cl .Growing) "make_room" ["self"] (spMakeRoom (cl .Growing)) := ⟨⟨f_2, _, ok_Growing_make_room F_2 T O_0, b_2, ⟨fi_2, fn_2, k_2⟩⟩⟩
 have O_14 : OwnM l.prog w K mg base true 8 (cl .Growing) "put" ["self", "key"] (spGDeed (cl .Growing) (cl .BadKey) Gw.putS ninB) := ⟨⟨f_14, _, ok_Growing_put F_14 T O_24 O_42 O_1 O_4 O_2, b_14, ⟨fi_14, fn_14, k_14⟩⟩⟩
 have O_10 : OwnM l.prog w K mg base true 8 (cl .Growing) "drop" ["self", "key"] (spGDeed (cl .Growing) (cl .BadKey) Gw.dropS inB) := ⟨⟨f_10, _, ok_Growing_drop F_10 T O_24 O_36 O_1 O_4, b_10, ⟨fi_10, fn_10, k_10⟩⟩⟩
 have O_15 : OwnM l.prog w K mg base true 8 (cl .Growing) "has" ["self", "key"] (spGDeed (cl .Growing) (cl .BadKey) hasS inB) := ⟨⟨f_15, _, ok_Growing_has F_15 T O_24 O_1 O_4, b_15, ⟨fi_15, fn_15, k_15⟩⟩⟩
 have O_5 : OwnM l.prog w K mg base true 2 (cl .Growing) "all_told" ["self"] (spGAll (cl .Growing)) := ⟨⟨f_5, _, ok_Growing_all_told F_5 T O_39, b_5, ⟨fi_5, fn_5, k_5⟩⟩⟩
 have O_11 : OwnM l.prog w K mg base true 1 (cl .Growing) "lays" ["self"] (spGLays (cl .Growing)) := ⟨⟨f_11, _, ok_Growing_lays F_11 T, b_11, ⟨fi_11, fn_11, k_11⟩⟩⟩
 have O_7 : OwnM l.prog w K mg base true 1 (cl .Growing) "moved" ["self"] (spGMoved (cl .Growing)) := ⟨⟨f_7, _, ok_Growing_moved F_7 T, b_7, ⟨fi_7, fn_7, k_7⟩⟩⟩
 have O_27 : Own l.prog w K mg base true 1 "_law_cell" ["_law_script", "_law_k"] (spCell K) := ⟨f_27, _, ok__law_cell F_27 T, b_27, k_27, PySem.W.mg_of X G a_27⟩
 have O_21 : Own l.prog w K mg base true 1 "_law_drawn" ["_law_cell_here", "_law_k"] (spDrawn) := ⟨f_21, _, ok__law_drawn F_21 T, b_21, k_21, PySem.W.mg_of X G a_21⟩
 have O_28 : Own l.prog w K mg base false 1 "_law_word" ["_law_e"] (spWord K cl) := ⟨f_28, _, ok__law_word F_28 T, b_28, k_28, PySem.W.mg_of X G a_28⟩
 have O_29 : Own l.prog w K mg base true 1 "_law_rule" ["_law_more"] (spRuleL) := ⟨f_29, _, ok__law_rule F_29 T, b_29, k_29, PySem.W.mg_of X G a_29⟩
 have O_30 : Own l.prog w K mg base true 1 "_law_home" ["_law_rule_here", "_law_key", "_law_size"] (spHomeL) := ⟨f_30, _, ok__law_home F_30 T, b_30, k_30, PySem.W.mg_of X G a_30⟩
 have O_31 : Own l.prog w K mg base true 2 "_law_keys" ["_law_more", "_law_many"] (spKeysL) := ⟨f_31, _, ok__law_keys F_31 T O_21, b_31, k_31, PySem.W.mg_of X G a_31⟩
 have O_16 : Own l.prog w K mg base true 1 "_law_filled" ["_law_homes", "_law_size"] (spFilled) := ⟨f_16, _, ok__law_filled F_16 T, b_16, k_16, PySem.W.mg_of X G a_16⟩
 have O_37 : Own l.prog w K mg base true 2 "_law_lay" ["_law_rule_here", "_law_size", "_law_keys_here"] (spLayG) := ⟨f_37, _, ok__law_lay F_37 T O_30 O_16, b_37, k_37, PySem.W.mg_of X G a_37⟩
 have O_32 : Own l.prog w K mg base true 9 "_law_told" ["_law_table", "_law_way", "_law_key"] (spToldG (cl .Growing)) := ⟨f_32, _, ok__law_told F_32 T O_14 O_10 O_15 O_28, b_32, k_32, PySem.W.mg_of X G a_32⟩
 have O_22 : Own l.prog w K mg base true 7 "_law_tried" ["_law_rule_here", "_law_size", "_law_step"] (spTriedG) := ⟨f_22, _, ok__law_tried F_22 T O_3 O_28, b_22, k_22, PySem.W.mg_of X G a_22⟩
 have O_23 : Own l.prog w K mg base true 1 "_law_moved" ["_law_own"] (spLMoved) := ⟨f_23, _, ok__law_moved F_23 T, b_23, k_23, PySem.W.mg_of X G a_23⟩
 have O_33 : Own l.prog w K mg base true 2 "_law_done" ["_law_own", "_law_way", "_law_key"] (spLDone) := ⟨f_33, _, ok__law_done F_33 T O_23, b_33, k_33, PySem.W.mg_of X G a_33⟩
 have O_34 : Own l.prog w K mg base true 3 "_law_lays" ["_law_rule_here", "_law_own"] (spLLays) := ⟨f_34, _, ok__law_lays F_34 T O_37, b_34, k_34, PySem.W.mg_of X G a_34⟩
 exact ok_law F_44 T O_3 O_5 O_11 O_7 O_27 O_21 O_29 O_31 O_32 O_22 O_33 O_34
end S60
namespace PySem.W.Fast
theorem tw15060054823448795683:True:=⟨⟩
theorem tw3859879161608931853:True:=⟨⟩
theorem tw1658877306112834655:True:=⟨⟩
theorem tw10360278896541844687:True:=⟨⟩
theorem tw18074519898879486221:True:=⟨⟩
theorem tw7275041447551017602:True:=⟨⟩
theorem tw5246544500215334994:True:=⟨⟩
theorem tw394167618685683434:True:=⟨⟩
theorem tw9854088871545531593:True:=⟨⟩
theorem tw10909706266944273862:True:=⟨⟩
theorem tw4017609533738618352:True:=⟨⟩
theorem tw16930578296861959260:True:=⟨⟩
theorem tw17407717370862879484:True:=⟨⟩
theorem tw3382670286918578548:True:=⟨⟩
theorem tw12563035246488903976:True:=⟨⟩
theorem tw14248797285030361779:True:=⟨⟩
theorem tw3352914745661416699:True:=⟨⟩
theorem tw6389125012413109978:True:=⟨⟩
theorem tw10276152597513391596:True:=⟨⟩
theorem tw3952958717576974218:True:=⟨⟩
theorem tw16446196989482226714:True:=⟨⟩
theorem tw1539912421642526048:True:=⟨⟩
theorem tw6438863798569940305:True:=⟨⟩
theorem tw626620517189062590:True:=⟨⟩
theorem tw6917372221323401230:True:=⟨⟩
theorem tw8224327288062045122:True:=⟨⟩
theorem tw14131975449993082220:True:=⟨⟩
theorem tw3845181053528855810:True:=⟨⟩
theorem tw15467953679009814827:True:=⟨⟩
theorem tw6982813507132205158:True:=⟨⟩
theorem tw2603521734461534923:True:=⟨⟩
theorem tw16819128065443976037:True:=⟨⟩
theorem tw9939135413835173962:True:=⟨⟩
theorem tw6534574073021971515:True:=⟨⟩
theorem tw11282503260958380829:True:=⟨⟩
theorem tw3917790785144182054:True:=⟨⟩
theorem tw4565644983478095266:True:=⟨⟩
theorem tw6854165204136696151:True:=⟨⟩
theorem tw10589754361623828959:True:=⟨⟩
theorem tw17690835870317295625:True:=⟨⟩
theorem tw7515518054567145116:True:=⟨⟩
theorem tw15613120940390534761:True:=⟨⟩
theorem tw4110240911097482716:True:=⟨⟩
theorem tw7352337173516880493:True:=⟨⟩
theorem tw12667314997944822711:True:=⟨⟩
theorem tw5128767667144816052:True:=⟨⟩
theorem tw6644280038126296833:True:=⟨⟩
theorem tw18220872310830455351:True:=⟨⟩
theorem tw11614029982133216040:True:=⟨⟩
theorem tw3817432052305937133:True:=⟨⟩
theorem tw6628078019935436234:True:=⟨⟩
theorem tw4051764150012560913:True:=⟨⟩
theorem tw9717408396682590360:True:=⟨⟩
theorem tw2029957638839235654:True:=⟨⟩
theorem tw214362142121449750:True:=⟨⟩
theorem tw1871212464634501104:True:=⟨⟩
theorem tw943201524447330191:True:=⟨⟩
theorem tw16780093287680033285:True:=⟨⟩
theorem tw12750117610642412610:True:=⟨⟩
theorem tw298161657932285212:True:=⟨⟩
theorem tw11143035082540877481:True:=⟨⟩
theorem tw9145005023770446596:True:=⟨⟩
theorem tw15184778569990449367:True:=⟨⟩
theorem tw9313976907191337562:True:=⟨⟩
theorem tw14400995397020698776:True:=⟨⟩
theorem tw719797436870485786:True:=⟨⟩
theorem tw16982620838245487958:True:=⟨⟩
theorem tw3775059029198372673:True:=⟨⟩
theorem tw8964771026125769362:True:=⟨⟩
theorem tw1812726627038054362:True:=⟨⟩
theorem tw12919309672185621515:True:=⟨⟩
theorem tw17880426997723787866:True:=⟨⟩
theorem tw2906266296849731308:True:=⟨⟩
theorem tw4477111959567354153:True:=⟨⟩
theorem tw1908851182042369375:True:=⟨⟩
theorem tw5581230804868162534:True:=⟨⟩
theorem tw15244070685190392324:True:=⟨⟩
theorem tw13865679461240484708:True:=⟨⟩
theorem tw2945763137402326277:True:=⟨⟩
theorem tw1149498586724999913:True:=⟨⟩
theorem tw5767776455437389213:True:=⟨⟩
theorem tw9084122064361484999:True:=⟨⟩
theorem tw17492558690508426644:True:=⟨⟩
theorem tw6575519786650286869:True:=⟨⟩
theorem tw17639572957836214648:True:=⟨⟩
theorem tw10510878198033080529:True:=⟨⟩
theorem tw16231467125582001575:True:=⟨⟩
theorem tw4850500755521522617:True:=⟨⟩
theorem tw12220996419307374147:True:=⟨⟩
theorem tw5481280395036481375:True:=⟨⟩
theorem tw13874447966145186939:True:=⟨⟩
theorem tw11116818809692805407:True:=⟨⟩
theorem tw495290911585164152:True:=⟨⟩
theorem tw12966214329816508852:True:=⟨⟩
theorem tw15391018532599515066:True:=⟨⟩
theorem tw9433144276180566284:True:=⟨⟩
theorem tw13066380022602806926:True:=⟨⟩
theorem tw10010129741016192759:True:=⟨⟩
theorem tw15228810932242570723:True:=⟨⟩
theorem tw6936299149753314016:True:=⟨⟩
theorem tw10401580392900700928:True:=⟨⟩
theorem tw9657357306427919129:True:=⟨⟩
theorem tw13968378278593792538:True:=⟨⟩
theorem tw16871563935553640868:True:=⟨⟩
theorem tw7344602383045111181:True:=⟨⟩
theorem tw7137562817310678460:True:=⟨⟩
theorem tw17509719419630125295:True:=⟨⟩
theorem tw12215233022216451164:True:=⟨⟩
theorem tw3674624343926101429:True:=⟨⟩
theorem tw10725411243732402975:True:=⟨⟩
theorem tw8973319502095669113:True:=⟨⟩
theorem tw14090042355492980721:True:=⟨⟩
theorem tw9398192535625983895:True:=⟨⟩
theorem tw5030336514730866734:True:=⟨⟩
theorem tw9670364580594105573:True:=⟨⟩
theorem tw13145318267194805773:True:=⟨⟩
theorem tw1004886409765501082:True:=⟨⟩
theorem tw351109117348620857:True:=⟨⟩
theorem tw2752657403565450589:True:=⟨⟩
theorem tw9492045009849213085:True:=⟨⟩
theorem tw13214277435093750106:True:=⟨⟩
theorem tw7795722038755562586:True:=⟨⟩
theorem tw18445152471347066175:True:=⟨⟩
theorem tw14611968242179045005:True:=⟨⟩
theorem tw13442905000928913864:True:=⟨⟩
theorem tw16843153230888007896:True:=⟨⟩
theorem tw6170374551060856388:True:=⟨⟩
theorem tw362687417639838448:True:=⟨⟩
theorem tw14676838189016875865:True:=⟨⟩
theorem tw16115938412866884106:True:=⟨⟩
theorem tw138319025356336788:True:=⟨⟩
theorem tw5326363677378156189:True:=⟨⟩
theorem tw10013789276061446358:True:=⟨⟩
theorem tw6257701766507017302:True:=⟨⟩
theorem tw16123295490804157524:True:=⟨⟩
theorem tw1604958332166424553:True:=⟨⟩
theorem tw8653572354207129782:True:=⟨⟩
theorem tw3831559672757525961:True:=⟨⟩
theorem tw12506330734882434345:True:=⟨⟩
theorem tw14190340043206310263:True:=⟨⟩
theorem tw8730100586351897173:True:=⟨⟩
theorem tw1493294632083711140:True:=⟨⟩
theorem tw9440213760652799564:True:=⟨⟩
theorem tw4703944144490178885:True:=⟨⟩
theorem tw2513532742184602678:True:=⟨⟩
theorem tw5922687308106557731:True:=⟨⟩
theorem tw6744275498579363744:True:=⟨⟩
theorem tw9712936884620741301:True:=⟨⟩
theorem tw17071232264715635092:True:=⟨⟩
theorem tw3133533164154411232:True:=⟨⟩
theorem tw1480435742177593357:True:=⟨⟩
theorem tw17343171447429914100:True:=⟨⟩
theorem tw18359399710039588805:True:=⟨⟩
theorem tw18002971116681041388:True:=⟨⟩
theorem tw9124935903223526277:True:=⟨⟩
theorem tw11067186905915757723:True:=⟨⟩
theorem tw18219880845894952981:True:=⟨⟩
theorem tw982402377570169522:True:=⟨⟩
theorem tw5786236810017933504:True:=⟨⟩
theorem tw16891558027701382327:True:=⟨⟩
theorem tw11018744288452303466:True:=⟨⟩
theorem tw857284078259170412:True:=⟨⟩
theorem tw13075269687634692369:True:=⟨⟩
theorem tw877442205767333491:True:=⟨⟩
theorem tw13809848814851850512:True:=⟨⟩
theorem tw7372676237295507519:True:=⟨⟩
theorem tw7426231501285179011:True:=⟨⟩
theorem tw17854932128031157731:True:=⟨⟩
theorem tw9450705463604903172:True:=⟨⟩
theorem tw10354629124966756615:True:=⟨⟩
theorem tw6955454092557478644:True:=⟨⟩
theorem tw15311674637944695218:True:=⟨⟩
theorem tw528372820119539574:True:=⟨⟩
theorem tw13940125881332979005:True:=⟨⟩
theorem tw3520518281103695533:True:=⟨⟩
theorem tw2816712601876621988:True:=⟨⟩
theorem tw11355396645515248896:True:=⟨⟩
theorem tw1107170539316673542:True:=⟨⟩
theorem tw11113857048157591284:True:=⟨⟩
theorem tw15283054050021075469:True:=⟨⟩
theorem tw7595524430024826254:True:=⟨⟩
theorem tw7468673359189756257:True:=⟨⟩
theorem tw11152100952277717111:True:=⟨⟩
theorem tw9692268428330865334:True:=⟨⟩
theorem tw17142149747215939924:True:=⟨⟩
theorem tw4242615470537807186:True:=⟨⟩
theorem tw8755915610049517203:True:=⟨⟩
theorem tw2666193702229353558:True:=⟨⟩
theorem tw17491976294139509870:True:=⟨⟩
theorem tw1318192974377931285:True:=⟨⟩
theorem tw14919105627759109622:True:=⟨⟩
theorem tw17025705932061562983:True:=⟨⟩
theorem tw12739837969826198237:True:=⟨⟩
theorem tw4627796726894244613:True:=⟨⟩
theorem tw16325409721157773814:True:=⟨⟩
theorem tw13902650389837126892:True:=⟨⟩
theorem tw9028728020974781:True:=⟨⟩
theorem tw4597397067311437515:True:=⟨⟩
theorem tw14206015148914161638:True:=⟨⟩
theorem tw13171637169692425945:True:=⟨⟩
theorem tw16738107585897384396:True:=⟨⟩
theorem tw12325586782650669060:True:=⟨⟩
theorem tw4856484770474549799:True:=⟨⟩
theorem tw15112755379263909353:True:=⟨⟩
theorem tw18177747859881253873:True:=⟨⟩
theorem tw15443253651162739687:True:=⟨⟩
theorem tw13529117463947184173:True:=⟨⟩
theorem tw15111521817929378900:True:=⟨⟩
theorem tw3342361517056568723:True:=⟨⟩
theorem tw3108310996407319237:True:=⟨⟩
theorem tw4067577920376077510:True:=⟨⟩
theorem tw359194860737149358:True:=⟨⟩
theorem tw5620260838152300479:True:=⟨⟩
theorem tw5210018745071701497:True:=⟨⟩
theorem tw6589108834131988018:True:=⟨⟩
theorem tw2017379634988002437:True:=⟨⟩
theorem tw6244997193043324760:True:=⟨⟩
theorem tw13332718020037244972:True:=⟨⟩
theorem tw17919505719528754944:True:=⟨⟩
theorem tw1881218273867265407:True:=⟨⟩
theorem tw12227341447215810792:True:=⟨⟩
theorem tw6975294969416414308:True:=⟨⟩
theorem tw9399629348791186836:True:=⟨⟩
theorem tw9901597258798841673:True:=⟨⟩
theorem tw8067509361572662028:True:=⟨⟩
theorem tw15018008688902972158:True:=⟨⟩
theorem tw7877072208426176846:True:=⟨⟩
theorem tw5383332723646304411:True:=⟨⟩
theorem tw2953606806258584327:True:=⟨⟩
theorem tw4555012992815846060:True:=⟨⟩
theorem tw15074672786727477105:True:=⟨⟩
theorem tw13569658489321163060:True:=⟨⟩
theorem tw18138059905939153346:True:=⟨⟩
theorem tw7862909975913073801:True:=⟨⟩
theorem tw14916974858470125145:True:=⟨⟩
theorem tw15664830919701701680:True:=⟨⟩
theorem tw8685654870151198792:True:=⟨⟩
theorem tw9854763397592085769:True:=⟨⟩
theorem tw13193708804882506576:True:=⟨⟩
theorem tw9279448254657536454:True:=⟨⟩
theorem tw14971656281568049416:True:=⟨⟩
theorem tw5470756834047652865:True:=⟨⟩
theorem tw16178952481871425566:True:=⟨⟩
theorem tw13673810242079477967:True:=⟨⟩
theorem tw16517416017150465671:True:=⟨⟩
theorem tw3542943501517560004:True:=⟨⟩
theorem tw4199053939946997301:True:=⟨⟩
theorem tw1892213076228771753:True:=⟨⟩
theorem tw588071656493363707:True:=⟨⟩
theorem tw9816936901557765589:True:=⟨⟩
theorem tw1398685780023146196:True:=⟨⟩
theorem tw17203193387145412803:True:=⟨⟩
theorem tw9264922375011222093:True:=⟨⟩
theorem tw4523492290902953173:True:=⟨⟩
theorem tw17614567550161110890:True:=⟨⟩
theorem tw4669776735993496329:True:=⟨⟩
theorem tw9887465359939212939:True:=⟨⟩
theorem tw17674019898578293393:True:=⟨⟩
theorem tw5534183424313850412:True:=⟨⟩
theorem tw13615410492679589852:True:=⟨⟩
theorem tw3672565419659834674:True:=⟨⟩
theorem tw11541822963581999701:True:=⟨⟩
theorem tw3623645327758857770:True:=⟨⟩
theorem tw14431174256133689595:True:=⟨⟩
theorem tw7836410686253902754:True:=⟨⟩
theorem tw217521122292104143:True:=⟨⟩
theorem tw12230042778942787597:True:=⟨⟩
theorem tw9753773582632224639:True:=⟨⟩
theorem tw6449153927313309964:True:=⟨⟩
theorem tw5594219263717573791:True:=⟨⟩
theorem tw9097600410647410275:True:=⟨⟩
theorem tw16680566835748674667:True:=⟨⟩
theorem tw3928918446221152812:True:=⟨⟩
theorem tw10829439214407239706:True:=⟨⟩
theorem tw13011306142856826208:True:=⟨⟩
theorem tw16385291511676894137:True:=⟨⟩
theorem tw11014246479211725006:True:=⟨⟩
theorem tw3818728770614584088:True:=⟨⟩
theorem tw13086594589251905216:True:=⟨⟩
theorem tw9025933073303259937:True:=⟨⟩
theorem tw16807060829911714592:True:=⟨⟩
theorem tw13071146809727178235:True:=⟨⟩
theorem tw3176041101279559765:True:=⟨⟩
theorem tw15167753932174545907:True:=⟨⟩
theorem tw2148144831375698644:True:=⟨⟩
theorem tw11537322163408945213:True:=⟨⟩
theorem tw14372011980518876093:True:=⟨⟩
theorem tw4418987432152317357:True:=⟨⟩
theorem tw13485227079887878465:True:=⟨⟩
theorem tw9836186971131765146:True:=⟨⟩
theorem tw14349257711780591871:True:=⟨⟩
theorem tw10981957574731829434:True:=⟨⟩
theorem tw1115227664583576113:True:=⟨⟩
theorem tw3053955750080703135:True:=⟨⟩
theorem tw17788994291734072879:True:=⟨⟩
theorem tw2590313910064093742:True:=⟨⟩
theorem tw10583964318229034720:True:=⟨⟩
theorem tw4439146599760740021:True:=⟨⟩
theorem tw14864984409462621002:True:=⟨⟩
theorem tw2917691366598840604:True:=⟨⟩
theorem tw9673577355538324039:True:=⟨⟩
theorem tw18137256787982424479:True:=⟨⟩
theorem tw16565705454318403649:True:=⟨⟩
theorem tw9549586376499797437:True:=⟨⟩
theorem tw4407228385030748676:True:=⟨⟩
theorem tw6644220697651478746:True:=⟨⟩
theorem tw1499921411860790417:True:=⟨⟩
theorem tw2543902861862474282:True:=⟨⟩
theorem tw4231565312858618508:True:=⟨⟩
theorem tw13480544472891667930:True:=⟨⟩
theorem tw7674655404865112829:True:=⟨⟩
theorem tw12787148707699650571:True:=⟨⟩
theorem tw12479518724769412592:True:=⟨⟩
theorem tw12443423773815693664:True:=⟨⟩
theorem tw7429017679592278070:True:=⟨⟩
theorem tw4485459483626938655:True:=⟨⟩
theorem tw1327945098921348686:True:=⟨⟩
theorem tw1339243559979989522:True:=⟨⟩
theorem tw15458676789533554469:True:=⟨⟩
theorem tw1414234585331207830:True:=⟨⟩
theorem tw1931040302286929908:True:=⟨⟩
theorem tw14503073482361376803:True:=⟨⟩
theorem tw16729288032463850623:True:=⟨⟩
theorem tw13589697521562225076:True:=⟨⟩
theorem tw15085088522959705215:True:=⟨⟩
theorem tw9224839466687662638:True:=⟨⟩
theorem tw5342581002317045635:True:=⟨⟩
theorem tw5900679179157540766:True:=⟨⟩
theorem tw10574715452083181666:True:=⟨⟩
theorem tw8326128717009023424:True:=⟨⟩
theorem tw4739489609509823099:True:=⟨⟩
theorem tw9119122161819104788:True:=⟨⟩
theorem tw10799268983181964805:True:=⟨⟩
theorem tw3906078223088447929:True:=⟨⟩
theorem tw5754561348136871542:True:=⟨⟩
theorem tw16567517136892189634:True:=⟨⟩
theorem tw13477741947330778355:True:=⟨⟩
theorem tw14522946318947528963:True:=⟨⟩
theorem tw17234433846642668685:True:=⟨⟩
theorem tw16375396859273004802:True:=⟨⟩
theorem tw16680668926266361592:True:=⟨⟩
theorem tw5191380012744076742:True:=⟨⟩
theorem tw4836993898551527024:True:=⟨⟩
theorem tw1060384465653388341:True:=⟨⟩
theorem tw6638948496902301556:True:=⟨⟩
theorem tw18070548715714574857:True:=⟨⟩
theorem tw7434622118974435187:True:=⟨⟩
theorem tw11888092595394957662:True:=⟨⟩
theorem tw10742652170606213049:True:=⟨⟩
theorem tw5943085934196195912:True:=⟨⟩
theorem tw4592560052420453881:True:=⟨⟩
theorem tw5934483573057009699:True:=⟨⟩
theorem tw853023396729364360:True:=⟨⟩
theorem tw5232998067595645663:True:=⟨⟩
theorem tw6488939411118764569:True:=⟨⟩
theorem tw6823520519569918498:True:=⟨⟩
theorem tw16383528282111594987:True:=⟨⟩
theorem tw15814777038937913701:True:=⟨⟩
theorem tw16496911815038838780:True:=⟨⟩
theorem tw2805205306932957435:True:=⟨⟩
theorem tw4108460762246364874:True:=⟨⟩
theorem tw928219766364718650:True:=⟨⟩
theorem tw14873802124398520644:True:=⟨⟩
theorem tw10874949462318559242:True:=⟨⟩
theorem tw17433672504288721366:True:=⟨⟩
theorem tw15966893123565424027:True:=⟨⟩
theorem tw1169310040388276116:True:=⟨⟩
theorem tw15128673124925759855:True:=⟨⟩
theorem tw3803561690835025538:True:=⟨⟩
theorem tw5469942009122439256:True:=⟨⟩
end PySem.W.Fast
open PySem PySem.W PyProof.Rows
set_option maxRecDepth 100000 in
set_option maxHeartbeats 0 in
theorem PySem.Challenge.cw_strewn_k60_whole_growing_holds : PySem.Challenge.rw_strewn_k60_whole_growing.Holds := by
 w_on; o_law; k_head; (case hw => w_witness2)
 k_fill
 refine L2.walk_of (l := PySem.Challenge.rw_strewn_k60_whole_growing) (c := true) (n := 63) (k := 10) (x := "_law_script") (CX := fun w => L2.CX1 (PySem.Challenge.rw_strewn_k60_whole_growing).prog w) (sp := fun w => SC.spLaw _) rfl (by decide) rfl ⟨by decide, by decide⟩ (fun w h Y => PySem.W.kIn_of Y) ?F (fun _ _ a ns hl _ hS => ⟨a, ns, rfl, hS, hl, fun _ => rfl⟩) (fun _ _ _ _ _ z => L2.E0.no z)
 case F =>
  intro w mg fa h KX G hmg
  refine' S60.all_mk KX G hmg ?a_StrewError ?a_BadRule ?a_BadKey ?a_BadSize ?a_Full ?a_TooMany ?a_Growing ?z_isinstance ?z_bool ?z_int ?z_len ?z_tuple ?z_str ?z_all ?z_sum ?z_max ?z_min ?z_range ?z_list ?z_sorted ?z_ValueError ?v_MOST_KEY ?v_LEAST_SIZE ?v_MOST_SIZE ?v_MOST_FACTOR ?v_LEAST_BITS ?v_MOST_BITS ?v_MOST_TOLD ?v_LEAST_TOLD_COUNT ?v_MOST_TOLD_COUNT ?v_LEAST_STEP ?v_MOST_STEP ?v_MOST_GROWN ?pg_Growing ?hc_Growing ?po_Growing ?sa_Growing ?mk_Growing ?kc_Growing ?n_Growing_moves_each ?n_Growing_moves_so_far ?n_Growing_newer ?n_Growing_older ?n_Growing_rule ?a_43 ?l_43 ?c_43 ?k_43 ?a_35 ?l_35 ?c_35 ?k_35 ?a_6 ?l_6 ?c_6 ?k_6 ?a_8 ?l_8 ?c_8 ?k_8 ?a_9 ?l_9 ?c_9 ?k_9 ?a_38 ?l_38 ?c_38 ?k_38 ?a_17 ?l_17 ?c_17 ?k_17 ?a_24 ?l_24 ?c_24 ?k_24 ?a_18 ?l_18 ?c_18 ?k_18 ?a_12 ?l_12 ?c_12 ?k_12 ?a_13 ?l_13 ?c_13 ?k_13 ?a_19 ?l_19 ?c_19 ?k_19 ?a_40 ?l_40 ?c_40 ?k_40 ?a_41 ?l_41 ?c_41 ?k_41 ?a_20 ?l_20 ?c_20 ?k_20 ?a_25 ?l_25 ?c_25 ?k_25 ?a_26 ?l_26 ?c_26 ?k_26 ?a_39 ?l_39 ?c_39 ?k_39 ?a_42 ?l_42 ?c_42 ?k_42 ?a_36 ?l_36 ?c_36 ?k_36 ?a_0 ?l_0 ?c_0 ?k_0 ?fi_3 ?fn_3 ?l_3 ?c_3 ?k_3 ?fi_1 ?fn_1 ?l_1 ?c_1 ?k_1 ?fi_4 ?fn_4 ?l_4 ?c_4 ?k_4 ?fi_2 ?fn_2 ?l_2 ?c_2 ?k_2 ?fi_14 ?fn_14 ?l_14 ?c_14 ?k_14 ?fi_10 ?fn_10 ?l_10 ?c_10 ?k_10 ?fi_15 ?fn_15 ?l_15 ?c_15 ?k_15 ?fi_5 ?fn_5 ?l_5 ?c_5 ?k_5 ?fi_11 ?fn_11 ?l_11 ?c_11 ?k_11 ?fi_7 ?fn_7 ?l_7 ?c_7 ?k_7 ?a_27 ?l_27 ?c_27 ?k_27 ?a_21 ?l_21 ?c_21 ?k_21 ?a_28 ?l_28 ?c_28 ?k_28 ?a_29 ?l_29 ?c_29 ?k_29 ?a_30 ?l_30 ?c_30 ?k_30 ?a_31 ?l_31 ?c_31 ?k_31 ?a_16 ?l_16 ?c_16 ?k_16 ?a_37 ?l_37 ?c_37 ?k_37 ?a_32 ?l_32 ?c_32 ?k_32 ?a_22 ?l_22 ?c_22 ?k_22 ?a_23 ?l_23 ?c_23 ?k_23 ?a_33 ?l_33 ?c_33 ?k_33 ?a_34 ?l_34 ?c_34 ?k_34 ?a_44 ?l_44 ?c_44 ?k_44 ?x_StrewError ?x_BadRule ?x_BadKey ?x_BadSize ?x_Full ?x_TooMany ?ga0 ?na0 ?ca0 ?mo0 ?mb0 ?hd0 ?ex0 ?q00 ?q01 ?q02 ?q03 ?q04 ?ve0 ?ga1 ?na1 ?ca1 ?mo1 ?mb1 ?hd1 ?ex1 ?q10 ?q11 ?q12 ?q13 ?q14 ?ve1 ?ga2 ?na2 ?ca2 ?mo2 ?mb2 ?hd2 ?ex2 ?q20 ?q21 ?q22 ?q23 ?q24 ?ve2 ?ga3 ?na3 ?ca3 ?mo3 ?mb3 ?hd3 ?ex3 ?q30 ?q31 ?q32 ?q33 ?q34 ?ve3 ?ga4 ?na4 ?ca4 ?mo4 ?mb4 ?hd4 ?ex4 ?q40 ?q41 ?q42 ?q43 ?q44 ?ve4 ?cg ?ct
  (case a_StrewError => first | k_is | kit_is | kernel_rfl)
  (case a_BadRule => first | k_is | kit_is | kernel_rfl)
  (case a_BadKey => first | k_is | kit_is | kernel_rfl)
  (case a_BadSize => first | k_is | kit_is | kernel_rfl)
  (case a_Full => first | k_is | kit_is | kernel_rfl)
  (case a_TooMany => first | k_is | kit_is | kernel_rfl)
  (case a_Growing => first | k_is | kit_is | kernel_rfl)
  (case z_isinstance => first | k_is | kit_is | kernel_rfl)
  (case z_bool => first | k_is | kit_is | kernel_rfl)
  (case z_int => first | k_is | kit_is | kernel_rfl)
  (case z_len => first | k_is | kit_is | kernel_rfl)
  (case z_tuple => first | k_is | kit_is | kernel_rfl)
  (case z_str => first | k_is | kit_is | kernel_rfl)
  (case z_all => first | k_is | kit_is | kernel_rfl)
  (case z_sum => first | k_is | kit_is | kernel_rfl)
  (case z_max => first | k_is | kit_is | kernel_rfl)
  (case z_min => first | k_is | kit_is | kernel_rfl)
  (case z_range => first | k_is | kit_is | kernel_rfl)
  (case z_list => first | k_is | kit_is | kernel_rfl)
  (case z_sorted => first | k_is | kit_is | kernel_rfl)
  (case z_ValueError => first | k_is | kit_is | kernel_rfl)
  (case v_MOST_KEY => first | k_is | kit_is | kernel_rfl)
  (case v_LEAST_SIZE => first | k_is | kit_is | kernel_rfl)
  (case v_MOST_SIZE => first | k_is | kit_is | kernel_rfl)
  (case v_MOST_FACTOR => first | k_is | kit_is | kernel_rfl)
  (case v_LEAST_BITS => first | k_is | kit_is | kernel_rfl)
  (case v_MOST_BITS => first | k_is | kit_is | kernel_rfl)
  (case v_MOST_TOLD => first | k_is | kit_is | kernel_rfl)
  (case v_LEAST_TOLD_COUNT => first | k_is | kit_is | kernel_rfl)
  (case v_MOST_TOLD_COUNT => first | k_is | kit_is | kernel_rfl)
  (case v_LEAST_STEP => first | k_is | kit_is | kernel_rfl)
  (case v_MOST_STEP => first | k_is | kit_is | kernel_rfl)
  (case v_MOST_GROWN => first | k_is | kit_is | kernel_rfl)
  (case pg_Growing => first | k_is | kit_is | kernel_rfl)
  (case hc_Growing => first | k_is | kit_is | kernel_rfl)
  (case po_Growing => first | k_is | kit_is | kernel_rfl)
  (case sa_Growing => first | k_is | kit_is | kernel_rfl)
  (case mk_Growing => first | k_is | kit_is | kernel_rfl)
  (case kc_Growing => first | k_is | kit_is | kernel_rfl)
  (case n_Growing_moves_each => first | k_is | kit_is | kernel_rfl)
  (case n_Growing_moves_so_far => first | k_is | kit_is | kernel_rfl)
  (case n_Growing_newer => first | k_is | kit_is | kernel_rfl)
  (case n_Growing_older => first | k_is | kit_is | kernel_rfl)
  (case n_Growing_rule => first | k_is | kit_is | kernel_rfl)
  (case a_43 => first | k_is | kit_is | kernel_rfl)
  (case l_43 => first | k_is | kit_is | kernel_rfl)
  (case c_43 => first | k_is | kit_is | kernel_rfl)
  (case k_43 => first | k_is | kit_is | kernel_rfl)
  (case a_35 => first | k_is | kit_is | kernel_rfl)
  (case l_35 => first | k_is | kit_is | kernel_rfl)
  (case c_35 => first | k_is | kit_is | kernel_rfl)
  (case k_35 => first | k_is | kit_is | kernel_rfl)
  (case a_6 => first | k_is | kit_is | kernel_rfl)
  (case l_6 => first | k_is | kit_is | kernel_rfl)
  (case c_6 => first | k_is | kit_is | kernel_rfl)
  (case k_6 => first | k_is | kit_is | kernel_rfl)
  (case a_8 => first | k_is | kit_is | kernel_rfl)
  (case l_8 => first | k_is | kit_is | kernel_rfl)
  (case c_8 => first | k_is | kit_is | kernel_rfl)
  (case k_8 => first | k_is | kit_is | kernel_rfl)
  (case a_9 => first | k_is | kit_is | kernel_rfl)
  (case l_9 => first | k_is | kit_is | kernel_rfl)
  (case c_9 => first | k_is | kit_is | kernel_rfl)
  (case k_9 => first | k_is | kit_is | kernel_rfl)
  (case a_38 => first | k_is | kit_is | kernel_rfl)
  (case l_38 => first | k_is | kit_is | kernel_rfl)
  (case c_38 => first | k_is | kit_is | kernel_rfl)
  (case k_38 => first | k_is | kit_is | kernel_rfl)
  (case a_17 => first | k_is | kit_is | kernel_rfl)
  (case l_17 => first | k_is | kit_is | kernel_rfl)
  (case c_17 => first | k_is | kit_is | kernel_rfl)
  (case k_17 => first | k_is | kit_is | kernel_rfl)
  (case a_24 => first | k_is | kit_is | kernel_rfl)
  (case l_24 => first | k_is | kit_is | kernel_rfl)
  (case c_24 => first | k_is | kit_is | kernel_rfl)
  (case k_24 => first | k_is | kit_is | kernel_rfl)
  (case a_18 => first | k_is | kit_is | kernel_rfl)
  (case l_18 => first | k_is | kit_is | kernel_rfl)
  (case c_18 => first | k_is | kit_is | kernel_rfl)
  (case k_18 => first | k_is | kit_is | kernel_rfl)
  (case a_12 => first | k_is | kit_is | kernel_rfl)
  (case l_12 => first | k_is | kit_is | kernel_rfl)
  (case c_12 => first | k_is | kit_is | kernel_rfl)
  (case k_12 => first | k_is | kit_is | kernel_rfl)
  (case a_13 => first | k_is | kit_is | kernel_rfl)
  (case l_13 => first | k_is | kit_is | kernel_rfl)
  (case c_13 => first | k_is | kit_is | kernel_rfl)
  (case k_13 => first | k_is | kit_is | kernel_rfl)
  (case a_19 => first | k_is | kit_is | kernel_rfl)
  (case l_19 => first | k_is | kit_is | kernel_rfl)
  (case c_19 => first | k_is | kit_is | kernel_rfl)
  (case k_19 => first | k_is | kit_is | kernel_rfl)
  (case a_40 => first | k_is | kit_is | kernel_rfl)
  (case l_40 => first | k_is | kit_is | kernel_rfl)
  (case c_40 => first | k_is | kit_is | kernel_rfl)
  (case k_40 => first | k_is | kit_is | kernel_rfl)
  (case a_41 => first | k_is | kit_is | kernel_rfl)
  (case l_41 => first | k_is | kit_is | kernel_rfl)
  (case c_41 => first | k_is | kit_is | kernel_rfl)
  (case k_41 => first | k_is | kit_is | kernel_rfl)
  (case a_20 => first | k_is | kit_is | kernel_rfl)
  (case l_20 => first | k_is | kit_is | kernel_rfl)
  (case c_20 => first | k_is | kit_is | kernel_rfl)
  (case k_20 => first | k_is | kit_is | kernel_rfl)
  (case a_25 => first | k_is | kit_is | kernel_rfl)
  (case l_25 => first | k_is | kit_is | kernel_rfl)
  (case c_25 => first | k_is | kit_is | kernel_rfl)
  (case k_25 => first | k_is | kit_is | kernel_rfl)
  (case a_26 => first | k_is | kit_is | kernel_rfl)
  (case l_26 => first | k_is | kit_is | kernel_rfl)
  (case c_26 => first | k_is | kit_is | kernel_rfl)
  (case k_26 => first | k_is | kit_is | kernel_rfl)
  (case a_39 => first | k_is | kit_is | kernel_rfl)
  (case l_39 => first | k_is | kit_is | kernel_rfl)
  (case c_39 => first | k_is | kit_is | kernel_rfl)
  (case k_39 => first | k_is | kit_is | kernel_rfl)
  (case a_42 => first | k_is | kit_is | kernel_rfl)
  (case l_42 => first | k_is | kit_is | kernel_rfl)
  (case c_42 => first | k_is | kit_is | kernel_rfl)
  (case k_42 => first | k_is | kit_is | kernel_rfl)
  (case a_36 => first | k_is | kit_is | kernel_rfl)
  (case l_36 => first | k_is | kit_is | kernel_rfl)
  (case c_36 => first | k_is | kit_is | kernel_rfl)
  (case k_36 => first | k_is | kit_is | kernel_rfl)
  (case a_0 => first | k_is | kit_is | kernel_rfl)
  (case l_0 => first | k_is | kit_is | kernel_rfl)
  (case c_0 => first | k_is | kit_is | kernel_rfl)
  (case k_0 => first | k_is | kit_is | kernel_rfl)
  (case fi_3 => first | k_is | kit_is | kernel_rfl)
  (case fn_3 => first | k_is | kit_is | kernel_rfl)
  (case l_3 => first | k_is | kit_is | kernel_rfl)
  (case c_3 => first | k_is | kit_is | kernel_rfl)
  (case k_3 => first | k_is | kit_is | kernel_rfl)
  (case fi_1 => first | k_is | kit_is | kernel_rfl)
  (case fn_1 => first | k_is | kit_is | kernel_rfl)
  (case l_1 => first | k_is | kit_is | kernel_rfl)
  (case c_1 => first | k_is | kit_is | kernel_rfl)
  (case k_1 => first | k_is | kit_is | kernel_rfl)
  (case fi_4 => first | k_is | kit_is | kernel_rfl)
  (case fn_4 => first | k_is | kit_is | kernel_rfl)
  (case l_4 => first | k_is | kit_is | kernel_rfl)
  (case c_4 => first | k_is | kit_is | kernel_rfl)
  (case k_4 => first | k_is | kit_is | kernel_rfl)
  (case fi_2 => first | k_is | kit_is | kernel_rfl)
  (case fn_2 => first | k_is | kit_is | kernel_rfl)
  (case l_2 => first | k_is | kit_is | kernel_rfl)
  (case c_2 => first | k_is | kit_is | kernel_rfl)
  (case k_2 => first | k_is | kit_is | kernel_rfl)
  (case fi_14 => first | k_is | kit_is | kernel_rfl)
  (case fn_14 => first | k_is | kit_is | kernel_rfl)
  (case l_14 => first | k_is | kit_is | kernel_rfl)
  (case c_14 => first | k_is | kit_is | kernel_rfl)
  (case k_14 => first | k_is | kit_is | kernel_rfl)
  (case fi_10 => first | k_is | kit_is | kernel_rfl)
  (case fn_10 => first | k_is | kit_is | kernel_rfl)
  (case l_10 => first | k_is | kit_is | kernel_rfl)
  (case c_10 => first | k_is | kit_is | kernel_rfl)
  (case k_10 => first | k_is | kit_is | kernel_rfl)
  (case fi_15 => first | k_is | kit_is | kernel_rfl)
  (case fn_15 => first | k_is | kit_is | kernel_rfl)
  (case l_15 => first | k_is | kit_is | kernel_rfl)
  (case c_15 => first | k_is | kit_is | kernel_rfl)
  (case k_15 => first | k_is | kit_is | kernel_rfl)
  (case fi_5 => first | k_is | kit_is | kernel_rfl)
  (case fn_5 => first | k_is | kit_is | kernel_rfl)
  (case l_5 => first | k_is | kit_is | kernel_rfl)
  (case c_5 => first | k_is | kit_is | kernel_rfl)
  (case k_5 => first | k_is | kit_is | kernel_rfl)
  (case fi_11 => first | k_is | kit_is | kernel_rfl)
  (case fn_11 => first | k_is | kit_is | kernel_rfl)
  (case l_11 => first | k_is | kit_is | kernel_rfl)
  (case c_11 => first | k_is | kit_is | kernel_rfl)
  (case k_11 => first | k_is | kit_is | kernel_rfl)
  (case fi_7 => first | k_is | kit_is | kernel_rfl)
  (case fn_7 => first | k_is | kit_is | kernel_rfl)
  (case l_7 => first | k_is | kit_is | kernel_rfl)
  (case c_7 => first | k_is | kit_is | kernel_rfl)
  (case k_7 => first | k_is | kit_is | kernel_rfl)
  (case a_27 => first | k_is | kit_is | kernel_rfl)
  (case l_27 => first | k_is | kit_is | kernel_rfl)
  (case c_27 => first | k_is | kit_is | kernel_rfl)
  (case k_27 => first | k_is | kit_is | kernel_rfl)
  (case a_21 => first | k_is | kit_is | kernel_rfl)
  (case l_21 => first | k_is | kit_is | kernel_rfl)
  (case c_21 => first | k_is | kit_is | kernel_rfl)
  (case k_21 => first | k_is | kit_is | kernel_rfl)
  (case a_28 => first | k_is | kit_is | kernel_rfl)
  (case l_28 => first | k_is | kit_is | kernel_rfl)
  (case c_28 => first | k_is | kit_is | kernel_rfl)
  (case k_28 => first | k_is | kit_is | kernel_rfl)
  (case a_29 => first | k_is | kit_is | kernel_rfl)
  (case l_29 => first | k_is | kit_is | kernel_rfl)
  (case c_29 => first | k_is | kit_is | kernel_rfl)
  (case k_29 => first | k_is | kit_is | kernel_rfl)
  (case a_30 => first | k_is | kit_is | kernel_rfl)
  (case l_30 => first | k_is | kit_is | kernel_rfl)
  (case c_30 => first | k_is | kit_is | kernel_rfl)
  (case k_30 => first | k_is | kit_is | kernel_rfl)
  (case a_31 => first | k_is | kit_is | kernel_rfl)
  (case l_31 => first | k_is | kit_is | kernel_rfl)
  (case c_31 => first | k_is | kit_is | kernel_rfl)
  (case k_31 => first | k_is | kit_is | kernel_rfl)
  (case a_16 => first | k_is | kit_is | kernel_rfl)
  (case l_16 => first | k_is | kit_is | kernel_rfl)
  (case c_16 => first | k_is | kit_is | kernel_rfl)
  (case k_16 => first | k_is | kit_is | kernel_rfl)
  (case a_37 => first | k_is | kit_is | kernel_rfl)
  (case l_37 => first | k_is | kit_is | kernel_rfl)
  (case c_37 => first | k_is | kit_is | kernel_rfl)
  (case k_37 => first | k_is | kit_is | kernel_rfl)
  (case a_32 => first | k_is | kit_is | kernel_rfl)
  (case l_32 => first | k_is | kit_is | kernel_rfl)
  (case c_32 => first | k_is | kit_is | kernel_rfl)
  (case k_32 => first | k_is | kit_is | kernel_rfl)
  (case a_22 => first | k_is | kit_is | kernel_rfl)
  (case l_22 => first | k_is | kit_is | kernel_rfl)
  (case c_22 => first | k_is | kit_is | kernel_rfl)
  (case k_22 => first | k_is | kit_is | kernel_rfl)
  (case a_23 => first | k_is | kit_is | kernel_rfl)
  (case l_23 => first | k_is | kit_is | kernel_rfl)
  (case c_23 => first | k_is | kit_is | kernel_rfl)
  (case k_23 => first | k_is | kit_is | kernel_rfl)
  (case a_33 => first | k_is | kit_is | kernel_rfl)
  (case l_33 => first | k_is | kit_is | kernel_rfl)
  (case c_33 => first | k_is | kit_is | kernel_rfl)
  (case k_33 => first | k_is | kit_is | kernel_rfl)
  (case a_34 => first | k_is | kit_is | kernel_rfl)
  (case l_34 => first | k_is | kit_is | kernel_rfl)
  (case c_34 => first | k_is | kit_is | kernel_rfl)
  (case k_34 => first | k_is | kit_is | kernel_rfl)
  (case a_44 => first | k_is | kit_is | kernel_rfl)
  (case l_44 => first | k_is | kit_is | kernel_rfl)
  (case c_44 => first | k_is | kit_is | kernel_rfl)
  (case k_44 => first | k_is | kit_is | kernel_rfl)
  (case x_StrewError => first | k_is | kit_is | kernel_rfl)
  (case x_BadRule => first | k_is | kit_is | kernel_rfl)
  (case x_BadKey => first | k_is | kit_is | kernel_rfl)
  (case x_BadSize => first | k_is | kit_is | kernel_rfl)
  (case x_Full => first | k_is | kit_is | kernel_rfl)
  (case x_TooMany => first | k_is | kit_is | kernel_rfl)
  (case ga0 => first | k_is | kit_is | kernel_rfl)
  (case na0 => first | k_is | kit_is | kernel_rfl)
  (case ca0 => first | k_is | kit_is | kernel_rfl)
  (case mo0 => first | k_is | kit_is | kernel_rfl)
  (case mb0 => first | k_is | kit_is | kernel_rfl)
  (case hd0 => first | k_is | kit_is | kernel_rfl)
  (case ex0 => first | k_is | kit_is | kernel_rfl)
  (case q00 => first | k_is | kit_is | kernel_rfl)
  (case q01 => first | k_is | kit_is | kernel_rfl)
  (case q02 => first | k_is | kit_is | kernel_rfl)
  (case q03 => first | k_is | kit_is | kernel_rfl)
  (case q04 => first | k_is | kit_is | kernel_rfl)
  (case ve0 => first | k_is | kit_is | kernel_rfl)
  (case ga1 => first | k_is | kit_is | kernel_rfl)
  (case na1 => first | k_is | kit_is | kernel_rfl)
  (case ca1 => first | k_is | kit_is | kernel_rfl)
  (case mo1 => first | k_is | kit_is | kernel_rfl)
  (case mb1 => first | k_is | kit_is | kernel_rfl)
  (case hd1 => first | k_is | kit_is | kernel_rfl)
  (case ex1 => first | k_is | kit_is | kernel_rfl)
  (case q10 => first | k_is | kit_is | kernel_rfl)
  (case q11 => first | k_is | kit_is | kernel_rfl)
  (case q12 => first | k_is | kit_is | kernel_rfl)
  (case q13 => first | k_is | kit_is | kernel_rfl)
  (case q14 => first | k_is | kit_is | kernel_rfl)
  (case ve1 => first | k_is | kit_is | kernel_rfl)
  (case ga2 => first | k_is | kit_is | kernel_rfl)
  (case na2 => first | k_is | kit_is | kernel_rfl)
  (case ca2 => first | k_is | kit_is | kernel_rfl)
  (case mo2 => first | k_is | kit_is | kernel_rfl)
  (case mb2 => first | k_is | kit_is | kernel_rfl)
  (case hd2 => first | k_is | kit_is | kernel_rfl)
  (case ex2 => first | k_is | kit_is | kernel_rfl)
  (case q20 => first | k_is | kit_is | kernel_rfl)
  (case q21 => first | k_is | kit_is | kernel_rfl)
  (case q22 => first | k_is | kit_is | kernel_rfl)
  (case q23 => first | k_is | kit_is | kernel_rfl)
  (case q24 => first | k_is | kit_is | kernel_rfl)
  (case ve2 => first | k_is | kit_is | kernel_rfl)
  (case ga3 => first | k_is | kit_is | kernel_rfl)
  (case na3 => first | k_is | kit_is | kernel_rfl)
  (case ca3 => first | k_is | kit_is | kernel_rfl)
  (case mo3 => first | k_is | kit_is | kernel_rfl)
  (case mb3 => first | k_is | kit_is | kernel_rfl)
  (case hd3 => first | k_is | kit_is | kernel_rfl)
  (case ex3 => first | k_is | kit_is | kernel_rfl)
  (case q30 => first | k_is | kit_is | kernel_rfl)
  (case q31 => first | k_is | kit_is | kernel_rfl)
  (case q32 => first | k_is | kit_is | kernel_rfl)
  (case q33 => first | k_is | kit_is | kernel_rfl)
  (case q34 => first | k_is | kit_is | kernel_rfl)
  (case ve3 => first | k_is | kit_is | kernel_rfl)
  (case ga4 => first | k_is | kit_is | kernel_rfl)
  (case na4 => first | k_is | kit_is | kernel_rfl)
  (case ca4 => first | k_is | kit_is | kernel_rfl)
  (case mo4 => first | k_is | kit_is | kernel_rfl)
  (case mb4 => first | k_is | kit_is | kernel_rfl)
  (case hd4 => first | k_is | kit_is | kernel_rfl)
  (case ex4 => first | k_is | kit_is | kernel_rfl)
  (case q40 => first | k_is | kit_is | kernel_rfl)
  (case q41 => first | k_is | kit_is | kernel_rfl)
  (case q42 => first | k_is | kit_is | kernel_rfl)
  (case q43 => first | k_is | kit_is | kernel_rfl)
  (case q44 => first | k_is | kit_is | kernel_rfl)
  (case ve4 => first | k_is | kit_is | kernel_rfl)
  (case cg => first | k_is | kit_is | kernel_rfl)
  (case ct => first | k_is | kit_is | kernel_rfl)
#print axioms PySem.Challenge.cw_strewn_k60_whole_growing_holds

