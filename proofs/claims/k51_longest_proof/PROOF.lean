import PyProof.Rows.All
import Wide.All
import OpenK.AllK
import Wide.FinOn
import PyProof.StationsW
import PyProof.RulesAs
import Lean
import PyProof.EqAt
import PyProof.EqKinds
import PyProof.TupleCall
import PyProof.DictWalks
import PyProof.MinMaxWalk
import PyProof.ListRange
import PyProof.WalkInts
import PyProof.SeqI3
import PyProof.SliceList
import KE.KSortTup
import PySem.Challenge.RW_strewn_k51_whole_longest
set_option maxRecDepth 100000
namespace PySem
open Sem (wp)
def RecAt (h : Heap) (e : Addr) (cls : Value) (vs : Array Value) : Prop := ∃ oe, h.get? e = some oe ∧ (oe.cls = cls ∧ oe.dict = none) ∧ oe.data = .fields vs
theorem RecAt.keep {h h' : Heap} {e : Addr} {cls : Value} {vs : Array Value} (x : RecAt h e cls vs) (k : ∀ o, h.get? e = some o → h'.get? e = some o) : RecAt h' e cls vs := let ⟨o, a, r⟩ := x; ⟨o, k o a, r⟩
theorem RecAt.no_field {h : Heap} {e b : Addr} {cls : Value} {vs : Array Value} (x : RecAt h e cls vs) {o : Obj} (hb : h.get? b = some o) (hn : ∀ ws, o.data ≠ .fields ws) : b ≠ e := fun q => by
  obtain ⟨oe, he, _, hd⟩ := x
  rw [q, he] at hb; cases hb; exact hn vs hd
theorem RecAt.set {h : Heap} {e : Addr} {cls : Value} {vs : Array Value} (x : RecAt h e cls vs) (i : Nat) (v : Value) : RecAt (h.update e (Obj.mapFields (·.setIfInBounds i v))) e cls (vs.setIfInBounds i v) := by
  obtain ⟨oe, he, hc, hd⟩ := x
  have hd' := Obj.data_mapFields hd (·.setIfInBounds i v)
  refine ⟨_, Heap.get?_update_self _ he (Obj.isFreed_of_fields hd'), ⟨(Obj.cls_mapFields _ _).trans hc.1, ?_⟩, hd'⟩
  obtain ⟨c, d, dt, sl⟩ := oe
  have hd2 : dt = .fields vs := hd
  subst hd2
  exact hc.2
theorem get_upd_ne {h : Heap} {e b : Addr} {f : Obj → Obj} {o : Obj} (hb : b ≠ e) (q : h.get? b = some o) : (h.update e f).get? b = some o := by
  rw [Heap.get?_update_other _ _ (Ne.symm hb)]; exact q
def InAir (B h : Heap) (l : List Env) (e : Addr) (cls : Value) (f : Option Value) : Prop :=
  B.StaysIn h ∧ B.get? e = none ∧ h.FunFrames B l ∧ ∃ vs, RecAt h e cls vs ∧ vs[2]? = some .none ∧
    match f with
    | none => vs[1]? = some .none
    | some x => ∃ T ts c, vs[1]? = some (.ref T) ∧ B.get? T = none ∧ T ≠ e ∧ RecAt h T c ts ∧ ts[3]? = some x
theorem InAir.fewer {B h : Heap} {env : Env} {l : List Env} {e : Addr} {cls : Value} {f : Option Value} (x : InAir B h (env :: l) e cls f) : InAir B h l e cls f := by
  obtain ⟨a, b, ⟨_, _, c⟩, d⟩ := x; exact ⟨a, b, c, d⟩
section
variable {M : Model} {A : Around} {E : Value → Shared → Prop} {s : Shared}
theorem air_entry {B : Heap} {env : Env} {outer : List Env} {L e : Addr} {cls head : Value} {vs : Array Value} {hadNext : Bool} {Q : Unit → Shared → Prop}
    (hfr : A.frames = some (env :: outer)) (hf : env.frame = some L) (hB : B.StaysIn s.heap) (hl : s.heap.FunFrames B (env :: outer)) (he : RecAt s.heap e cls vs) (hen : B.get? e = none) (h1 : 1 < vs.size) (h2 : vs[2]? = some .none)
    (h : ∀ h', InAir B h' (env :: outer) e cls (some (rawInt L)) → s.heap.UpToSlots h' → Q () { s with heap := h' }) :
    wpAny M A (do let a ← frameOf env; let pl ← entryPlaceOf L hadNext; let b ← EntryCells.newEntry head a .none (rawInt L) .none pl; setField (.ref e) 1 b) Q E s := by
  refine wpAny_bind (wpAny_frameOf_fun hfr hl hf fun h₁ hs₁ => wpAny_bind (wpAny_entryPlaceOf fun pl hpl => ?_))
  unfold EntryCells.newEntry newFields
  refine wpAny_bind (wpAny_newObj_type ?_ (hpl.sizeOk5 _ _ _ _ _))
  have nf : ∀ b, b ∈ (env :: outer).filterMap (·.frame) → b ≠ e := fun b hm => by
    obtain ⟨_, o, ho, hn⟩ := hl.mem hm
    exact he.no_field ho hn
  have he₁ : RecAt h₁ e cls vs := he.keep fun o q => (hs₁.2.1 e fun hm => nf e hm rfl).trans q
  obtain ⟨oe, ge, ce, de⟩ := id he₁
  have hTe : h₁.objs.size ≠ e := Nat.ne_of_gt (Heap.lt_size ge)
  refine wpAny_setField (Heap.get?_push_of_some _ ge) de h1 ?_
  have keep : ∀ (x : Obj) b o, b ≠ e → h₁.get? b = some o → ((h₁.push x).update e (Obj.mapFields (·.setIfInBounds 1 (Value.ref h₁.objs.size)))).get? b = some o := fun x b o hb q => get_upd_ne hb (Heap.get?_push_of_some _ q)
  have kB : B.StaysIn h₁ := fun b o q => (hs₁.2.1 b fun hm => by rw [(hl.mem hm).1] at q; cases q).trans (hB b o q)
  refine h _ ⟨fun b o q => keep _ b o (fun z => by rw [z, hen] at q; cases q) (kB b o q), hen, hl.of_keeps fun b o hb hn => ?_, _, RecAt.set (he₁.keep fun o q => Heap.get?_push_of_some _ q) 1 _, ?_, h₁.objs.size, _, _, ?_, kB.fresh, hTe, ⟨_, get_upd_ne hTe (Heap.get?_push_size h₁ rfl), ⟨rfl, rfl⟩, rfl⟩, ?_⟩ fun b o hb hn => ?_
  · obtain ⟨sl, q⟩ := hs₁.2.2 b o hb
    exact ⟨_, keep _ b _ (he.no_field hb hn) q, rfl⟩
  · rw [Array.getElem?_setIfInBounds_ne (by decide)]; exact h2
  · simp [h1]
  · first | (simp; done) | (rcases hpl with rfl | ⟨_, _, _, _, _, _, _, rfl⟩ <;> simp)
  · obtain ⟨sl, q⟩ := hs₁.2.2 b o hb
    exact ⟨sl, keep _ b _ (he.no_field hb hn) q⟩
theorem air_note {B : Heap} {env : Env} {outer : List Env} {L e : Addr} {cls : Value} {f : Option Value} {Q : Unit → Shared → Prop}
    (hfr : A.frames = some (env :: outer)) (hf : env.frame = some L) (x : InAir B s.heap (env :: outer) e cls f) (hx : f = none ∨ f = some .none ∨ f = some (rawInt L))
    (h : ∀ h', InAir B h' (env :: outer) e cls (some (rawInt L)) → s.heap.UpToSlots h' → Q () { s with heap := h' }) : wpAny M A (noteFrame (.ref e) env) Q E s := by
  obtain ⟨hB, hen, hl, vs, he, h2, hm⟩ := id x
  have z2 : 2 < vs.size := (Array.getElem?_eq_some_iff.mp h2).1
  obtain ⟨oe, ge, ce, de⟩ := id he
  unfold noteFrame
  simp only [hf]
  rcases hx with rfl | rfl | rfl
  · refine wpAny_bind (wpAny_field ge de hm ?_)
    rw [if_neg (by decide)]
    exact air_entry hfr hf hB hl he hen (Nat.lt_of_succ_lt z2) h2 h
  · obtain ⟨T, ts, c, t1, tB, tne, hT, t3⟩ := hm
    obtain ⟨oT, gT, cT, dT⟩ := id hT
    refine wpAny_bind (wpAny_field ge de t1 ?_)
    rw [if_pos (show (Value.ref T != Value.none) = true from by simp)]
    refine wpAny_bind (wpAny_field gT dT t3 ?_)
    rw [if_neg (show ¬ ((Value.none == rawInt L) = true) from by simp [rawInt])]
    refine wpAny_bind (wpAny_setField gT dT (Array.getElem?_eq_some_iff.mp t3).1 ?_)
    refine air_entry hfr hf (fun b o q => get_upd_ne (fun z => by rw [z, tB] at q; cases q) (hB b o q)) (hl.of_keeps fun b o hb hn => ⟨o, get_upd_ne (hT.no_field hb hn) hb, rfl⟩) (he.keep fun o q => get_upd_ne (Ne.symm tne) q) hen (Nat.lt_of_succ_lt z2) h2 fun h' a b => h h' a fun b' o hb hn => ?_
    exact b b' o (get_upd_ne (hT.no_field hb hn) hb) hn
  · obtain ⟨T, ts, c, t1, tB, tne, hT, t3⟩ := hm
    obtain ⟨oT, gT, cT, dT⟩ := id hT
    refine wpAny_bind (wpAny_field ge de t1 ?_)
    rw [if_pos (show (Value.ref T != Value.none) = true from by simp)]
    refine wpAny_bind (wpAny_field gT dT t3 ?_)
    rw [if_pos (show (rawInt L == rawInt L) = true from by simp)]
    exact wpAny_pure (h s.heap x (.refl _))
theorem air_mark {B : Heap} {l : List Env} {e : Addr} {cls x : Value} {fr : Option Addr} {Q : Unit → Shared → Prop} (hx : InAir B s.heap l e cls (some x))
    (h : ∀ h', InAir B h' l e cls (some (fr.elim .none fun f => rawInt f)) → s.heap.UpToSlots h' → Q () { s with heap := h' }) : wpAny M A (setFlight (.ref e) fr) Q E s := by
  obtain ⟨hB, hen, hl, vs, he, h2, T, ts, c, t1, tB, tne, hT, t3⟩ := hx
  obtain ⟨oe, ge, ce, de⟩ := id he
  obtain ⟨oT, gT, cT, dT⟩ := id hT
  have z3 : 3 < ts.size := (Array.getElem?_eq_some_iff.mp t3).1
  unfold setFlight
  refine wpAny_bind (wpAny_field ge de t1 ?_)
  rw [if_pos (show (Value.ref T != Value.none) = true from by simp)]
  refine wpAny_setField gT dT z3 (h _ ⟨fun b o q => get_upd_ne (fun z => by rw [z, tB] at q; cases q) (hB b o q), hen, hl.of_keeps fun b o hb hn => ⟨o, get_upd_ne (hT.no_field hb hn) hb, rfl⟩, vs, he.keep fun o q => get_upd_ne (Ne.symm tne) q, h2, T, _, c, t1, tB, tne, hT.set 3 _, ?_⟩ fun b o hb hn => ⟨o.slots, get_upd_ne (hT.no_field hb hn) hb⟩)
  simp [z3]
theorem air_leave {B : Heap} {env : Env} {outer : List Env} {L e : Addr} {cls : Value} {f : Option Value} {Q : Unit → Shared → Prop}
    (hfr : A.frames = some (env :: outer)) (hf : env.frame = some L) (x : InAir B s.heap (env :: outer) e cls f) (hx : f = none ∨ f = some .none ∨ f = some (rawInt L))
    (h : ∀ h', InAir B h' outer e cls (some .none) → s.heap.UpToSlots h' → Q () { s with heap := h' }) : wpAny M A (leaving env (.ref e)) Q E s := by
  unfold leaving
  refine wpAny_bind (air_note hfr hf x hx fun h₁ x₁ u₁ => ?_)
  exact air_mark (fr := none) x₁ fun h₂ x₂ u₂ => h h₂ x₂.fewer (u₁.trans u₂)
theorem air_back {B : Heap} {env : Env} {l : List Env} {L e : Addr} {cls : Value} (hf : env.frame = some L) {E' : Value → Shared → Prop} (x : InAir B s.heap l e cls (some (rawInt L)))
    (h : ∀ h', InAir B h' l e cls (some (rawInt L)) → s.heap.UpToSlots h' → E' (.ref e) { s with heap := h' }) : cameBackBy M A env E' (.ref e) s := by
  obtain ⟨hB, hen, hl, vs, he, h2, T, ts, c, t1, tB, tne, hT, t3⟩ := id x
  obtain ⟨oe, ge, ce, de⟩ := id he
  unfold cameBackBy
  refine wpAny_bind (wpAny_field ge de t1 ?_)
  rw [if_neg (by simp)]
  rw [hf]
  exact air_mark (fr := some L) x h
end
end PySem
set_option Elab.async false
set_option linter.all false
set_option maxRecDepth 100000
set_option maxRecDepth 100000
namespace PySem
open Sem (wp)
section
variable {prog : Program} {w : World} {A : Around} {E : Value → Shared → Prop} {s : Shared}
theorem entry_unchain : entryFor table "proto.unchain" = some Builtin.«proto.unchain» := entryFor_of_fast (by kernel_rfl)
def HdAt (A : Around) (h : Heap) : Prop := A.handled = none ∨ ∃ a o vs, A.handled = some (.ref a) ∧ h.get? a = some o ∧ o.data = .fields vs ∧ vs[2]? = some .none
theorem HdAt.keeps {A : Around} {h h' : Heap} (x : HdAt A h) (k : ∀ a o, A.handled = some (.ref a) → h.get? a = some o → h'.get? a = some o) : HdAt A h' := by
  rcases x with x | ⟨a, o, vs, e, ha, r⟩
  · exact .inl x
  · exact .inr ⟨a, o, vs, e, k a o e ha, r⟩
theorem raise_any {α : Type} {e : Addr} {oe : Obj} {ws : Array Value} {Q : α → Shared → Prop}
    (he : s.heap.get? e = some oe) (hd : oe.data = .fields ws) (hz : 2 < ws.size) (hne : A.handled ≠ some (.ref e)) (hh : HdAt A s.heap)
    (h : ∀ h' oe', h'.get? e = some oe' → oe'.cls = oe.cls → (∀ b o, b ≠ e → s.heap.get? b = some o → h'.get? b = some o) → E (.ref e) { s with heap := h' }) :
    wpAny (model prog w) A (raiseNew (.ref e) : Sem α) Q E s := by
  rcases hh with hh | ⟨a, o, vs, hh, ha, hda, h2⟩
  · exact wpAny_raiseNew_none hh (h s.heap oe he rfl fun _ _ _ q => q)
  · have hae : a ≠ e := fun q => hne (by rw [hh, q])
    unfold raiseNew
    refine wpAny_bind (wpAny_handled ?_)
    rw [hh]
    show wpAny _ _ (if (Value.ref a != Value.ref e) = true then (holding [Value.ref e] (runValue (Code.builtin "proto.unchain" { pos := [Value.ref e, .ref a, .ref a, Value.bool false] })) >>= fun _ => updateField e 2 (.ref a) >>= fun _ => throw (Value.ref e)) else throw (Value.ref e)) _ _ _
    rw [if_pos (by simp [hae])]
    refine wpAny_bind (wpAny_holding (wpAny_runValue (codeAny_builtin entry_unchain ?_)))
    unfold Builtin.«proto.unchain»
    refine wpAny_bind (wpAny_field ha hda h2 ?_)
    simp only [beq_self_eq_true, if_true]
    refine wpAny_pure ?_
    show wpAny _ _ _ _ _ _
    refine wpAny_bind ?_
    refine wpAny_setField (i := 2) he hd hz (wpAny_throw (h _ _ (Heap.get?_update_self _ he (Obj.isFreed_of_fields (Obj.data_mapFields hd _))) (Obj.cls_mapFields _ _) fun b o' hb q => ?_))
    rw [Heap.get?_update_other _ _ (Ne.symm hb)]
    exact q
theorem HdAt.ne_new {A : Around} {h : Heap} (x : HdAt A h) {e : Addr} (he : h.get? e = none) : A.handled ≠ some (.ref e) := fun q => by
  rcases x with x | ⟨a, o, vs, z, ha, _⟩
  · rw [x] at q; cases q
  · rw [z] at q; cases q; rw [he] at ha; cases ha
theorem stop_raised {α : Type} {Q : α → Shared → Prop} (hh : HdAt A s.heap)
    (h : ∀ h' e oe, h'.get? e = some oe → oe.cls = .type "StopIteration" → (∀ b o, s.heap.get? b = some o → h'.get? b = some o) → E (.ref e) { s with heap := h' }) :
    wpAny (model prog w) A (newExc (.type "StopIteration") [] >>= fun e => (raiseNew e : Sem α)) Q E s := by
  refine wpAny_bind ?_
  simp only [newExc, newTuple]
  refine wpAny_bind (wpAny_newObj_type ?_ (by size_fits))
  refine wpAny_bind (m := firstArgMember _ _) (wpAny_of_eq (a := Value.none) (by first | rfl | (simp only [firstArgMember]; rfl)) ?_)
  refine wpAny_newObj_type ?_ (by size_fits)
  have k : ∀ b o, s.heap.get? b = some o → ((s.heap.push { cls := .type "tuple", dict := none, data := .seq ([] : List Value).toArray }).push { cls := .type "StopIteration", dict := none, data := .fields (#[Value.ref s.heap.objs.size, .none, .none, .none, .bool false, .none] ++ ownMembersOf (.type "StopIteration") []) }).get? b = some o :=
    fun b o q => Heap.get?_push_of_some _ (Heap.get?_push_of_some _ q)
  have ne : A.handled ≠ some (.ref (s.heap.push { cls := .type "tuple", dict := none, data := .seq ([] : List Value).toArray }).objs.size) := hh.ne_new (Heap.get?_none_of_le (by rw [Heap.size_push]; exact Nat.le_succ _))
  refine raise_any (Heap.get?_push_size _ rfl) rfl (by simp only [Array.size_append] <;> simp <;> omega) ne (hh.keeps fun a o _ q => k a o q) fun h' oe' e1 e2 e3 => h h' _ oe' e1 e2 fun b o q => e3 b o (fun z => ?_) (k b o q)
  have := Heap.lt_size q
  rw [z, Heap.size_push] at this
  exact absurd (Nat.lt_of_succ_lt this) (Nat.lt_irrefl _)
theorem list_end {it l : Addr} {i : Nat} {items} {Q : Option Value → Shared → Prop} (hh : HdAt A s.heap) (hne : A.handled ≠ some (.ref it))
    (hit : s.heap.IsListIter it l i) (hl : s.heap.IsList l items) (hx : items[i]? = none)
    (hQ : ∀ h', (∀ b o, b ≠ it → s.heap.get? b = some o → h'.get? b = some o) → Q none { s with heap := h' }) : wpAny (model prog w) A (pyNext (.ref it)) Q E s := by
  obtain ⟨o, ho, hc, hd⟩ := id hit
  obtain ⟨ol, hol, _, nl, hdl⟩ := hl
  unfold pyNext
  refine wpAny_bind (wpAny_attempt (wpAny_callSpecial?_slot (name := Str.ofString "__next__") hit.typeIs slot_listiter_next
    (wpAny_call_entry slot_listiter_next hit.typeIs entry_listiter_next ?_ (args_listiter_next _))))
  show wpAny _ _ (field (.ref it) 0 >>= _) _ _ s
  refine wpAny_bind (wpAny_field ho hd (x := .ref l) rfl ?_)
  show wpAny _ _ (if (Value.ref l == Value.none) = true then _ else _) _ _ s
  rw [if_neg (show ¬ ((Value.ref l == Value.none) = true) from Bool.false_ne_true)]
  show wpAny _ _ (field (.ref it) 1 >>= _) _ _ s
  refine wpAny_bind (wpAny_field ho hd (x := .int i 0) rfl ?_)
  show wpAny _ _ (seqItems? (.ref l) >>= _) _ _ s
  refine wpAny_bind (wpAny_seqItems hol hdl ?_)
  simp only [Int.toNat_natCast, hx]
  refine wpAny_bind (wpAny_rule (wpAny_bind (wpAny_setField ho hd (by simp) ?_)))
  have k : ∀ b o', b ≠ it → s.heap.get? b = some o' → (s.heap.update it (Obj.mapFields (·.setIfInBounds 0 .none))).get? b = some o' := fun b o' hb q => by
    rw [Heap.get?_update_other _ _ (Ne.symm hb)]; exact q
  refine stop_raised (hh.keeps fun a o' e q => k a o' (fun z => hne (by rw [← z]; exact e)) q) fun h' e oe e1 e2 e3 => ?_
  refine wpAny_bind (wpAny_isInstance (T := "StopIteration") (b := true) ⟨_, e1, e2⟩ isSubtype_stop ?_)
  exact wpAny_pure (hQ _ fun b o' hb q => e3 b o' (k b o' hb q))
theorem range_end {it : Addr} {x left step : Int} {Q : Option Value → Shared → Prop} (hh : HdAt A s.heap) (hit : IsRangeIter s.heap it x left step) (hleft : left ≤ 0)
    (hQ : ∀ h', (∀ b o, s.heap.get? b = some o → h'.get? b = some o) → Q none { s with heap := h' }) : wpAny (model prog w) A (pyNext (.ref it)) Q E s := by
  have hT : s.TypeIs (.ref it) "range_iterator" := ⟨_, hit, rfl⟩
  unfold pyNext
  refine wpAny_bind (wpAny_attempt (wpAny_callSpecial?_slot (name := Str.ofString "__next__") hT F.slot_range_iterator_next
    (wpAny_call_entry F.slot_range_iterator_next hT F.entry_range_iterator_next ?_ (F.args_range_iterator_next_1 _))))
  show wpAny _ _ (field (.ref it) 0 >>= _) _ _ s
  refine wpAny_bind (wpAny_field hit rfl (x := rawInt x) rfl ?_)
  show wpAny _ _ (field (.ref it) 1 >>= _) _ _ s
  refine wpAny_bind (wpAny_field hit rfl (x := rawInt left) rfl ?_)
  show wpAny _ _ (field (.ref it) 2 >>= _) _ _ s
  refine wpAny_bind (wpAny_field hit rfl (x := rawInt step) rfl ?_)
  show wpAny _ _ (if left ≤ 0 then _ else _) _ _ s
  rw [if_pos hleft]
  refine wpAny_bind (wpAny_rule ?_)
  refine wpAny_bind ?_
  refine stop_raised hh fun h' e oe e1 e2 e3 => ?_
  refine wpAny_bind (wpAny_isInstance (T := "StopIteration") (b := true) ⟨_, e1, e2⟩ isSubtype_stop ?_)
  exact wpAny_pure (hQ _ fun b o' q => e3 b o' q)
theorem range_next {it : Addr} {lo : Int} {i n : Nat} {Q : Option Value → Shared → Prop} (hi : i < n) (st : IsRangeIter s.heap it (lo + (i : Nat) * 1) ((n : Int) - (i : Nat)) 1)
    (hQ : ∀ v h' tk, (∃ t, v = .int (lo + (i : Nat) * 1) t) → IsRangeIter h' it (lo + ((i + 1 : Nat) : Int) * 1) ((n : Int) - ((i + 1 : Nat) : Int)) 1 → (∀ b o, b ≠ it → s.heap.get? b = some o → h'.get? b = some o) → Q (some v) { s with heap := h', toks := tk }) :
    wpAny (model prog w) A (pyNext (.ref it)) Q E s := by
  refine wpAny_pyNext_range_item st (by omega) fun h' hit' hs' => ?_
  refine hQ _ h' _ ⟨_, rfl⟩ ?_ fun b o hb e => hs'.extBut b o hb e
  have e1 : lo + ((i + 1 : Nat) : Int) * 1 = lo + (i : Int) * 1 + 1 := by push_cast; omega
  have e2 : (n : Int) - ((i + 1 : Nat) : Int) = (n : Int) - (i : Int) - 1 := by push_cast; omega
  rw [e1, e2]; exact hit'
def hdA (A : Around) : List Addr := match A.handled with | some (.ref a) => [a] | _ => []
theorem HdAt.frame {A : Around} {h h' : Heap} (x : HdAt A h) (k : ∀ b ∈ hdA A, ∀ o, h.get? b = some o → h'.get? b = some o) : HdAt A h' :=
  x.keeps fun a o e q => k a (by unfold hdA; rw [e]; exact List.mem_singleton.mpr rfl) o q
theorem walks_list (I ax : Addr) (hne : ax ≠ I) (hnI : A.handled ≠ some (.ref I)) (items : Array Value) :
    Walks prog w A I ([I, ax] ++ hdA A) [I] items.size (fun i v => items[i]? = some v) (fun i h => h.IsListIter I ax i ∧ h.IsList ax items ∧ HdAt A h) where
  sub := fun b hb => by simp at hb; simp [hb]
  frame := fun _ _ _ st hk => ⟨st.1.at fun o e => hk I (by simp) o e, st.2.1.at fun o e => hk ax (by simp) o e, st.2.2.frame fun b hb o e => hk b (List.mem_append_right _ hb) o e⟩
  item := fun i s Q E hi st hQ => by
    refine wpAny_pyNext_list_item st.1 st.2.1 (x := items[i]) (by simp [hi]) fun h' hit' hs' => ?_
    refine hQ _ h' s.toks (by simp [hi]) ⟨hit', st.2.1.extBut hs'.extBut hne, st.2.2.keeps fun a o e q => hs'.extBut a o (fun z => hnI (by rw [← z]; exact e)) q⟩ fun b o hb e => hs'.extBut b o (fun h => hb (by simp [h])) e
  done := fun s Q E st hQ => list_end st.2.2 hnI st.1 st.2.1 (by simp) fun h' he' => hQ h' s.toks fun b o hb e => he' b o (fun h => hb (by simp [h])) e
  self := fun _ _ _ _ st hQ => wpAny_pyIter_listiter st.1 hQ
end
end PySem
namespace L2
open PySem PySem.Spec PyProof.Rows
abbrev Key := Sum Int Str
def keyIs : Key → Value → Bool
  | .inl k, v => Value.isInt k v
  | .inr x, v => Value.isStrOf x v
def keyH (w : World) : Key → Int
  | .inl k => hashInt k
  | .inr x => hashStr w x
theorem keyIs_shape : ∀ {k : Key} {v : Value}, keyIs k v = true → (∃ i t, k = Sum.inl i ∧ v = Value.int i t) ∨ (∃ x t, k = Sum.inr x ∧ v = Value.str x t)
  | .inl i, v, h => by
    obtain ⟨t, e⟩ := Value.isInt_shape (k := i) (v := v) h
    exact .inl ⟨i, t, rfl, e⟩
  | .inr x, v, h => by
    obtain ⟨t, e⟩ := Value.isStrOf_shape (x := x) (v := v) h
    exact .inr ⟨x, t, rfl, e⟩
theorem key_ll (a b : Int) : decide ((Sum.inl a : Key) = Sum.inl b) = (a == b) := by
  by_cases e : a = b
  · subst e; simp
  · have h : ¬ (Sum.inl a : Key) = Sum.inl b := fun q => e (Sum.inl.inj q)
    rw [decide_eq_false h]
    exact (beq_eq_false_iff_ne.mpr e).symm
theorem key_rr (a b : Str) : decide ((Sum.inr a : Key) = Sum.inr b) = decide (a = b) := by
  by_cases e : a = b
  · subst e; simp
  · have h : ¬ (Sum.inr a : Key) = Sum.inr b := fun q => e (Sum.inr.inj q)
    rw [decide_eq_false h, decide_eq_false e]
theorem key_lr (a : Int) (b : Str) : decide ((Sum.inl a : Key) = Sum.inr b) = false := decide_eq_false (fun q => nomatch q)
theorem key_rl (a : Str) (b : Int) : decide ((Sum.inr a : Key) = Sum.inl b) = false := decide_eq_false (fun q => nomatch q)
def mixKind (prog : Program) (w : World) : PySem.KeyKind prog w Key where
  is := keyIs
  hash := keyH w
  inj := fun v a b ha hb => by
    rcases keyIs_shape ha with ⟨i, t, rfl, rfl⟩ | ⟨x, t, rfl, rfl⟩
    · rcases keyIs_shape hb with ⟨j, u, rfl, e⟩ | ⟨y, u, rfl, e⟩
      · injection e with e1 _; rw [e1]
      · exact nomatch e
    · rcases keyIs_shape hb with ⟨j, u, rfl, e⟩ | ⟨y, u, rfl, e⟩
      · exact nomatch e
      · injection e with e1 _; rw [e1]
  byValue := fun k v h => by
    rcases keyIs_shape h with ⟨i, t, rfl, rfl⟩ | ⟨x, t, rfl, rfl⟩ <;> rfl
  pyHash := fun hv h => by
    rcases keyIs_shape hv with ⟨i, t, rfl, rfl⟩ | ⟨x, t, rfl, rfl⟩
    · exact wpAny_pyHash_int h
    · exact wpAny_pyHash_str h
  eqBool := fun hu hv h => by
    rcases keyIs_shape hu with ⟨i, t, rfl, rfl⟩ | ⟨x, t, rfl, rfl⟩
    · rcases keyIs_shape hv with ⟨j, u, rfl, rfl⟩ | ⟨y, u, rfl, rfl⟩
      · rw [key_ll] at h; exact wpAny_eqBool_int h
      · rw [key_lr] at h; exact SeqAt.EqAt.int_str i t y u _ _ _ _ h
    · rcases keyIs_shape hv with ⟨j, u, rfl, rfl⟩ | ⟨y, u, rfl, rfl⟩
      · rw [key_rl] at h; exact SeqAt.EqAt.str_int x t j u _ _ _ _ h
      · rw [key_rr] at h; exact wpAny_eqBool_str h
  «strs» := fun k x t v h => by
    rcases keyIs_shape h with ⟨i, u, rfl, e⟩ | ⟨y, u, rfl, e⟩
    · exact nomatch e
    · injection e with e1 _
      subst e1
      cases v <;> rfl
end L2
namespace L2
open PySem PySem.Spec PyProof.Rows
inductive V where
  | non | bl (b : Bool) | int (i : Int) | str (x : Str) | byt (b : Array UInt8) | flt (b : UInt64) | ref (a : Addr) | ty (n : String)
  deriving DecidableEq
def RelV : V → Value → Prop
  | .non, u => u = Value.none
  | .bl b, u => u = Value.bool b
  | .int i, u => ∃ t, u = Value.int i t
  | .str x, u => ∃ t, u = Value.str x t
  | .byt b, u => ∃ t, u = Value.bytes b t
  | .flt b, u => ∃ t, u = Value.float b t
  | .ref a, u => u = Value.ref a
  | .ty n, u => u = Value.type n
abbrev Vals : List V → List Value → Prop := Paired RelV
theorem Vals.length {xs : List V} {us : List Value} (r : Vals xs us) : xs.length = us.length := Paired.length r
theorem Vals.get : ∀ {xs : List V} {us : List Value} {i : Nat} {x : V}, Vals xs us → xs[i]? = some x → ∃ u, us[i]? = some u ∧ RelV x u
  | _, _, _, _, .nil, e => by simp at e
  | _, _, 0, _, .cons r _, e => by simp at e; subst e; exact ⟨_, rfl, r⟩
  | _, _, i + 1, x, .cons _ t, e => by
    obtain ⟨u, h1, h2⟩ := Vals.get (i := i) (x := x) t (by simpa using e)
    exact ⟨u, by simpa using h1, h2⟩
theorem Vals.set {x : V} {u : Value} (r : RelV x u) : ∀ {xs : List V} {us : List Value} (i : Nat), Vals xs us → Vals (xs.set i x) (us.set i u)
  | _, _, _, .nil => .nil
  | _, _, 0, .cons _ t => .cons r t
  | _, _, i + 1, .cons q t => .cons q (Vals.set r i t)
theorem Vals.append : ∀ {xs ys : List V} {us ws : List Value}, Vals xs us → Vals ys ws → Vals (xs ++ ys) (us ++ ws)
  | _, _, _, _, .nil, s => s
  | _, _, _, _, .cons r t, s => .cons r (Vals.append t s)
theorem Vals.take : ∀ {xs : List V} {us : List Value} (n : Nat), Vals xs us → Vals (xs.take n) (us.take n)
  | _, _, 0, _ => .nil
  | _, _, _ + 1, .nil => .nil
  | _, _, n + 1, .cons r t => .cons r (Vals.take n t)
theorem Vals.drop : ∀ {xs : List V} {us : List Value} (n : Nat), Vals xs us → Vals (xs.drop n) (us.drop n)
  | _, _, 0, r => r
  | _, _, _ + 1, .nil => .nil
  | _, _, n + 1, .cons _ t => Vals.drop n t
def RelO : Option V → Option Value → Prop
  | some v, some u => RelV v u
  | none, none => True
  | _, _ => False
def KV {κ : Type} : List (κ × V) → List (κ × Value) → Prop := Paired fun (p : κ × V) (q : κ × Value) => p.1 = q.1 ∧ RelV p.2 q.2
def kV : Key → V
  | .inl i => .int i
  | .inr x => .str x
inductive HO where
  /-- a list -/
  | lst (xs : List V)
  /-- a tuple (never changes) -/
  | tup (xs : List V)
  /-- a dict whose keys are ints and texts; one whose keys are tuples of ints and texts (the empty one is both) -/
  | dK (kvs : List (Key × V)) | dT (kvs : List (List Key × V))
  /-- a set of ints: its members, its size -/
  | set (S : Int → Bool) (n : Nat)
  /-- an instance of the class at C, its dict at dx, its attributes -/
  | ins (C dx : Addr) (fs : List (Str × V))
  /-- the dict of the instance at x -/
  | own (x : Addr)
  /-- the dict of an exception -/
  | xd (fs : List (Str × V))
  /-- a bound method, f of x -/
  | met (f x : Addr)
  /-- a range object lo, lo + 1, .. below hi -/
  | rng (lo hi : Int)
  /-- a thing that is known to the object (the script; a dict while a loop walks it): read, never written while it is so -/
  | frz (o : Obj) (u : HO)
  /-- a code object's table -/
  | tbl (ps : Array Value)
  /-- any other thing, by what is true of its one object (a def of one's own: SetO a S n := HO.ext fun h => ..) -/
  | ext (φ : Heap → Prop)
abbrev Hp := Addr → Option HO
def upd (H : Hp) (a : Addr) (o : HO) : Hp := fun b => if b = a then some o else H b
theorem upd_same {H : Hp} {a : Addr} {o : HO} : upd H a o a = some o := by unfold upd; rw [if_pos rfl]
theorem upd_ne {H : Hp} {a b : Addr} {o : HO} (h : b ≠ a) : upd H a o b = H b := by unfold upd; rw [if_neg h]
theorem upd_upd {H : Hp} {a : Addr} {o u : HO} : upd (upd H a o) a u = upd H a u := by
  funext b; unfold upd; split <;> rfl
theorem ne_of_none {H : Hp} {a b : Addr} {o : HO} (h : H a = some o) (h' : H b = none) : a ≠ b := by
  intro e; subst e; rw [h] at h'; cases h'
section
variable (P : Program) (w : World)
def ObjOk (H : Hp) (h : Heap) (a : Addr) : HO → Prop
  | .lst xs => xs.length ≤ sizeLine ∧ ∃ (its : List Value) (n : Nat), Vals xs its ∧ h.get? a = some { cls := .type "list", data := .seq its.toArray n }
  | .tup xs => xs.length ≤ sizeLine ∧ ∃ its : List Value, Vals xs its ∧ IsTup h a its.toArray
  | .dK kvs => kvs.length ≤ sizeLine ∧ (a == sysModules) = false ∧ ∃ vs, KV kvs vs ∧ h.DictOf (mixKind P w) a vs
  | .dT kvs => kvs.length ≤ sizeLine ∧ (a == sysModules) = false ∧ ∃ xs : List (List Key × Addr × Value),
      Paired (fun (p : List Key × V) (q : List Key × Addr × Value) => p.1 = q.1 ∧ H q.2.1 = some (.tup (p.1.map kV)) ∧ RelV p.2 q.2.2) kvs xs ∧
      ∃ o es ep, h.get? a = some o ∧ o.ExactDict ∧ o.data = .dict es ep ∧ es.toList = xs.map (entryOfKey (tupleKind (mixKind P w))) ∧ (xs.map (·.1)).Nodup
  | .set S n => h.SetOf (intKind P w) a S n
  | .ins C dx fs => H dx = some (.own a) ∧ fs.length ≤ 1000 ∧ dx ≠ a ∧ h.get? a = some (PySem.W.instObj C dx) ∧
      ∃ mA, h.Ns1 dx mA ∧ (∀ f, RelO (fs.lookup f) (mA f)) ∧ PySem.Within mA (fs.map (·.1))
  | .own _ => ∃ o, h.get? a = some o
  | .xd fs => ∃ mA, h.Ns1 a mA ∧ ∀ f, RelO (fs.lookup f) (mA f)
  | .rng lo hi => ∃ t u v, h.get? a = some { cls := .type "range", data := .fields #[.int lo t, .int hi u, .int 1 v] }
  | .frz o u => h.get? a = some o ∧ ObjOk H h a u
  | .tbl ps => h.get? a = some { cls := .none, data := .fields ps }
  | .met f x => h.get? a = some (PySem.W.methodObj (.ref f) (.ref x))
  | .ext φ => φ h ∧ (∃ o, h.get? a = some o) ∧ ∀ h1 h2 : Heap, φ h1 → (∀ o, h1.get? a = some o → h2.get? a = some o) → φ h2
def HOk (H : Hp) (h : Heap) : Prop := ∀ a o, H a = some o → ObjOk P w H h a o
end
section
variable {P : Program} {w : World} {H H' : Hp} {h h' : Heap} {a : Addr} {o : HO}
theorem ObjOk.lt (x : ObjOk P w H h a o) : a < h.objs.size := by
  cases o with
  | lst xs => obtain ⟨_, _, _, _, e⟩ := x; exact Heap.lt_size e
  | tup xs => obtain ⟨_, _, _, p⟩ := x; exact p.lt
  | dK kvs => obtain ⟨_, _, _, _, o, _, _, e, _⟩ := x; exact Heap.lt_size e
  | dT kvs => obtain ⟨_, _, _, _, o, _, _, e, _⟩ := x; exact Heap.lt_size e
  | set S n => obtain ⟨o, _, _, _, e, _⟩ := x; exact Heap.lt_size e
  | ins C dx fs => obtain ⟨_, _, _, e, _⟩ := x; exact Heap.lt_size e
  | own y => obtain ⟨_, e⟩ := x; exact Heap.lt_size e
  | xd fs => obtain ⟨_, ⟨_, _, _, e, _⟩, _⟩ := x; exact Heap.lt_size e
  | rng lo hi => obtain ⟨_, _, _, e⟩ := x; exact Heap.lt_size e
  | frz ob u => obtain ⟨e, _⟩ := x; exact Heap.lt_size e
  | tbl ps => exact Heap.lt_size (show h.get? a = some _ from x)
  | met f y => exact Heap.lt_size (show h.get? a = some _ from x)
  | ext φ => obtain ⟨_, ⟨_, e⟩, _⟩ := x; exact Heap.lt_size e
theorem Paired.mapP {α β : Type} {F G : α → β → Prop} : ∀ {l₁ : List α} {l₂ : List β}, Paired F l₁ l₂ → (∀ a b, F a b → G a b) → Paired G l₁ l₂
  | _, _, .nil, _ => .nil
  | _, _, .cons r t, f => .cons (f _ _ r) (Paired.mapP t f)
theorem ObjOk.stay (x : ObjOk P w H h a o) (k : ∀ b u, (b = a ∨ H b = some (.own a)) → h.get? b = some u → h'.get? b = some u)
    (ho : ∀ b, H b = some (.own a) → H' b = some (.own a)) (ht : ∀ b xs, H b = some (.tup xs) → H' b = some (.tup xs)) : ObjOk P w H' h' a o := by
  induction o with
  | lst xs => obtain ⟨z, its, n, r, e⟩ := x; exact ⟨z, its, n, r, k _ _ (.inl rfl) e⟩
  | tup xs => obtain ⟨z, its, r, ob, e, c⟩ := x; exact ⟨z, its, r, ob, k _ _ (.inl rfl) e, c⟩
  | dK kvs => obtain ⟨z, y, vs, r, ob, es, ep, e, c⟩ := x; exact ⟨z, y, vs, r, ob, es, ep, k _ _ (.inl rfl) e, c⟩
  | dT kvs =>
    obtain ⟨z, y, xs, r, ob, es, ep, e, c⟩ := x
    exact ⟨z, y, xs, Paired.mapP r fun p q z => ⟨z.1, ht _ _ z.2.1, z.2.2⟩, ob, es, ep, k _ _ (.inl rfl) e, c⟩
  | set S n => obtain ⟨ob, es, ep, t, e, c⟩ := x; exact ⟨ob, es, ep, t, k _ _ (.inl rfl) e, c⟩
  | ins C dx fs =>
    obtain ⟨d, z, ne, e, mA, ⟨od, es, ep, e2, c⟩, r⟩ := x
    exact ⟨ho _ d, z, ne, k _ _ (.inl rfl) e, mA, ⟨od, es, ep, k _ _ (.inr d) e2, c⟩, r⟩
  | own y => obtain ⟨ob, e⟩ := x; exact ⟨ob, k _ _ (.inl rfl) e⟩
  | xd fs => obtain ⟨mA, ⟨od, es, ep, e, c⟩, r⟩ := x; exact ⟨mA, ⟨od, es, ep, k _ _ (.inl rfl) e, c⟩, r⟩
  | rng lo hi => obtain ⟨t, u, v, e⟩ := x; exact ⟨t, u, v, k _ _ (.inl rfl) e⟩
  | frz ob u ih => obtain ⟨e, q⟩ := x; exact ⟨k _ _ (.inl rfl) e, ih q⟩
  | tbl ps =>
    have e : h.get? a = some { cls := .none, data := .fields ps } := x
    show h'.get? a = some { cls := .none, data := .fields ps }
    exact k a _ (.inl rfl) e
  | met f y =>
    have e : h.get? a = some (PySem.W.methodObj (.ref f) (.ref y)) := x
    show h'.get? a = some (PySem.W.methodObj (.ref f) (.ref y))
    exact k a _ (.inl rfl) e
  | ext φ => obtain ⟨p, ⟨o, e⟩, st⟩ := x; exact ⟨st _ _ p fun o q => k _ _ (.inl rfl) q, ⟨o, k _ _ (.inl rfl) e⟩, st⟩
theorem HOk.lt (x : HOk P w H h) (e : H a = some o) : a < h.objs.size := (x a o e).lt
theorem HOk.fresh (x : HOk P w H h) (e : h.objs.size ≤ a) : H a = none := by
  cases q : H a with
  | none => rfl
  | some u => exact absurd (Nat.lt_of_lt_of_le (x.lt q) e) (Nat.lt_irrefl _)
theorem HOk.kept (x : HOk P w H h) (k : ∀ b u, h.get? b = some u → h'.get? b = some u) : HOk P w H h' := fun a o e =>
  (x a o e).stay (fun b u _ q => k b u q) (fun _ q => q) fun _ _ q => q
theorem HOk.laid (x : HOk P w H h) (k : ∀ b u, h.get? b = some u → h'.get? b = some u) (hp : h.objs.size ≤ a) (new : ObjOk P w (upd H a o) h' a o) : HOk P w (upd H a o) h' := fun b u e => by
  have hn := x.fresh hp
  by_cases hb : b = a
  · subst hb; rw [upd_same] at e; cases e; exact new
  · rw [upd_ne hb] at e
    exact (x b u e).stay (fun c v _ q => k c v q) (fun c q => by rw [upd_ne (ne_of_none q hn)]; exact q) fun c xs q => by rw [upd_ne (ne_of_none q hn)]; exact q
end
def Rd (H : Hp) (a : Addr) (u : HO) : Prop := H a = some u ∨ ∃ o, H a = some (.frz o u)
theorem Rd.of {H : Hp} {a : Addr} {u : HO} (h : H a = some u) : Rd H a u := .inl h
theorem Rd.ok {P : Program} {w : World} {H : Hp} {h : Heap} {a : Addr} {u : HO} (r : Rd H a u) (x : HOk P w H h) : ObjOk P w H h a u := by
  rcases r with r | ⟨o, r⟩
  · exact x a u r
  · obtain ⟨_, q⟩ := x a _ r
    exact q
def Mut : Option HO → Prop
  | some (.lst _) => True
  | some (.dK _) => True
  | some (.dT _) => True
  | some (.set _ _) => True
  | some (.ins _ _ _) => True
  | some (.ext _) => True
  | _ => False
section
variable {P : Program} {w : World} {H : Hp} {h h' : Heap} {x e : Addr} {o' : HO}
theorem HOk.write (ok : HOk P w H h) (mu : Mut (H x)) (he : e = x ∨ H e = some (.own x)) (k : ∀ b u, b ≠ e → h.get? b = some u → h'.get? b = some u) (heo : ∃ u, h'.get? e = some u)
    (new : ObjOk P w (upd H x o') h' x o') : HOk P w (upd H x o') h' := fun b u q => by
  have nown : ∀ c y, H c = some (.own y) → c ≠ x := fun c y r z => by subst z; rw [r] at mu; exact mu
  have ntup : ∀ c xs, H c = some (.tup xs) → c ≠ x := fun c xs r z => by subst z; rw [r] at mu; exact mu
  by_cases hb : b = x
  · subst hb; rw [upd_same] at q; cases q; exact new
  · rw [upd_ne hb] at q
    by_cases hbe : b = e
    · have q' : H b = some (.own x) := by
        rcases he with z | z
        · exact absurd (hbe.trans z) hb
        · rw [hbe]; exact z
      rw [q] at q'; cases q'
      obtain ⟨v, hv⟩ := heo
      exact ⟨v, by rw [hbe]; exact hv⟩
    · refine (ok b u q).stay (fun c v hc r => k c v ?_ r) (fun c r => by rw [upd_ne (nown c b r)]; exact r) fun c xs r => by rw [upd_ne (ntup c xs r)]; exact r
      rcases hc with rfl | hc
      · exact hbe
      · rintro rfl
        rcases he with z | z
        · exact nown c b hc z
        · rw [hc] at z; cases z; exact hb rfl
end
structure Un (fs ex : List Addr) (H H' : Hp) (h h' : Heap) : Prop where
  keep : ∀ b o, h.get? b = some o → H b = none → b ∉ fs → b ∉ ex → h'.get? b = some o
  slot : ∀ b o, h.get? b = some o → H b = none → b ∈ fs → b ∉ ex → ∃ sl, h'.get? b = some { o with slots := sl }
  free : ∀ b o, h.get? b = some o → H b = none → b ∉ ex → H' b = none
  there : ∀ b o, h.get? b = some o → b ∉ ex → ∃ o', h'.get? b = some o'
  tups : ∀ b xs, H b = some (.tup xs) → H' b = some (.tup xs)
  frzs : ∀ b o u, H b = some (.frz o u) → H' b = some (.frz o u)
  tbls : ∀ b ps, H b = some (.tbl ps) → ∃ more, H' b = some (.tbl (ps ++ more))
section
variable {fs fs' ex ex' : List Addr} {H H1 H2 : Hp} {h h1 h2 h' : Heap} {a x e : Addr} {o : HO}
theorem Un.any (u : Un fs ex H H1 h h1) {b : Addr} {ob : Obj} (q : h.get? b = some ob) (n : H b = none) (hx : b ∉ ex) : ∃ sl, h1.get? b = some { ob with slots := sl } := by
  by_cases hb : b ∈ fs
  · exact u.slot b ob q n hb hx
  · exact ⟨ob.slots, u.keep b ob q n hb hx⟩
theorem Un.trans (a : Un fs ex H H1 h h1) (b : Un fs ex H1 H2 h1 h2) : Un fs ex H H2 h h2 where
  keep := fun c ob q n hc hx => b.keep c ob (a.keep c ob q n hc hx) (a.free c ob q n hx) hc hx
  slot := fun c ob q n hc hx => by
    obtain ⟨sl, e1⟩ := a.slot c ob q n hc hx
    obtain ⟨sl', e2⟩ := b.slot c _ e1 (a.free c ob q n hx) hc hx
    exact ⟨sl', e2⟩
  free := fun c ob q n hx => by
    obtain ⟨o', e1⟩ := a.there c ob q hx
    exact b.free c o' e1 (a.free c ob q n hx) hx
  there := fun c ob q hx => by
    obtain ⟨o', e1⟩ := a.there c ob q hx
    exact b.there c o' e1 hx
  tups := fun c xs q => b.tups c xs (a.tups c xs q)
  frzs := fun c ob xs q => b.frzs c ob xs (a.frzs c ob xs q)
  tbls := fun c ps q => by
    obtain ⟨m1, e1⟩ := a.tbls c ps q
    obtain ⟨m2, e2⟩ := b.tbls c _ e1
    exact ⟨m1 ++ m2, by rw [e2, Array.append_assoc]⟩
theorem Un.kept (k : ∀ b u, h.get? b = some u → h'.get? b = some u) : Un fs ex H H h h' :=
  ⟨fun b ob q _ _ _ => k b ob q, fun b ob q _ _ _ => ⟨ob.slots, k b ob q⟩, fun _ _ _ n _ => n, fun b ob q _ => ⟨ob, k b ob q⟩, fun _ _ q => q, fun _ _ _ q => q, fun _ ps q => ⟨#[], by rw [q]; simp⟩⟩
theorem Un.refl : Un fs ex H H h h := Un.kept fun _ _ q => q
theorem Un.laid (k : ∀ b u, h.get? b = some u → h'.get? b = some u) (hp : h.objs.size ≤ a) (hn : H a = none) : Un fs ex H (upd H a o) h h' where
  keep := fun b u q _ _ _ => k b u q
  slot := fun b u q _ _ _ => ⟨u.slots, k b u q⟩
  free := fun b u q n _ => by rw [upd_ne (Nat.ne_of_lt (Nat.lt_of_lt_of_le (Heap.lt_size q) hp))]; exact n
  there := fun b u q _ => ⟨u, k b u q⟩
  tups := fun b xs q => by rw [upd_ne (ne_of_none q hn)]; exact q
  frzs := fun b u xs q => by rw [upd_ne (ne_of_none q hn)]; exact q
  tbls := fun b ps q => ⟨#[], by rw [upd_ne (ne_of_none q hn), q]; simp⟩
theorem Un.write (mu : Mut (H x)) (he : e = x ∨ H e = some (.own x)) (k : ∀ b u, b ≠ e → h.get? b = some u → h'.get? b = some u) (heo : ∃ u, h'.get? e = some u) : Un fs ex H (upd H x o) h h' := by
  have hx : ∀ b, H b = none → b ≠ x := fun b n z => by subst z; rw [n] at mu; exact mu
  have hb : ∀ b, H b = none → b ≠ e := fun b n z => by
    subst z
    rcases he with r | r
    · exact hx b n r
    · rw [n] at r; cases r
  have hm : ∀ b u, H b = some u → ¬ Mut (some u) → b ≠ x := fun b u q nm z => by subst z; rw [q] at mu; exact nm mu
  refine ⟨fun b u q n _ _ => k b u (hb b n) q, fun b u q n _ _ => ⟨u.slots, k b u (hb b n) q⟩, fun b u q n _ => by rw [upd_ne (hx b n)]; exact n, fun b u q _ => ?_,
    fun b xs q => by rw [upd_ne (hm b _ q fun z => z)]; exact q, fun b u xs q => by rw [upd_ne (hm b _ q fun z => z)]; exact q, fun b ps q => ⟨#[], by rw [upd_ne (hm b _ q fun z => z), q]; simp⟩⟩
  by_cases hbe : b = e
  · subst hbe; exact heo
  · exact ⟨u, k b u hbe q⟩
theorem Un.mono (u : Un fs ex H H1 h h1) (hs : ∀ b ∈ fs, b ∈ fs') (hx : ∀ b ∈ ex, b ∈ ex') : Un fs' ex' H H1 h h1 :=
  ⟨fun b ob q n hb he => u.keep b ob q n (fun z => hb (hs b z)) fun z => he (hx b z), fun _ _ q n _ he => u.any q n fun z => he (hx _ z), fun b ob q n he => u.free b ob q n fun z => he (hx b z), fun b ob q he => u.there b ob q fun z => he (hx b z), u.tups, u.frzs, u.tbls⟩
end
def trk (h : Heap) (H : Hp) : List Addr := (List.range h.objs.size).filter fun a => (H a).isSome
def hidT (h : Heap) (H : Hp) : Heap := PySem.W.hideAll h (trk h H)
theorem hidT_size (h : Heap) (H : Hp) : (hidT h H).objs.size = h.objs.size := PySem.W.hideAll_size _ _
theorem hidT_get {h : Heap} {H : Hp} {b : Addr} {o : Obj} (e : h.get? b = some o) (n : H b = none) : (hidT h H).get? b = some o :=
  PySem.W.hideAll_get _ e fun hm => by
    have q : (H b).isSome = true := (List.mem_filter.mp hm).2
    rw [n] at q; simp at q
theorem of_hidT {h : Heap} {H : Hp} {b : Addr} {o : Obj} (e : (hidT h H).get? b = some o) : h.get? b = some o ∧ H b = none := by
  have e' : h.get? b = some o := PySem.W.of_hideAll (trk h H) e
  refine ⟨e', ?_⟩
  cases q : H b with
  | none => rfl
  | some x =>
    have hm : b ∈ trk h H := List.mem_filter.mpr ⟨List.mem_range.mpr (Heap.lt_size e'), by simp [q]⟩
    have z : (hidT h H).get? b = none := PySem.W.hideAll_none (trk h H) hm
    rw [z] at e; cases e
def allNews (g h : Heap) (L : Addr) : List (Addr × Obj) := (List.range h.objs.size).filterMap fun a => if a = L ∨ (g.get? a).isSome = true then none else (h.get? a).map fun o => (a, o)
def rest (g h : Heap) (L d : Addr) : List (Addr × Obj) := (allNews g h L).filter fun p => decide (p.1 ≠ d)
end L2
namespace L2
open PySem PySem.Spec PyProof.Rows
structure Mod (K : PySem.W.Frag) (mg : Str → Option Value) (base : Heap) : Prop where
  kin : K.In base
  glob : base.Ns mainGlobals mg
  blt : ∃ mb, base.Ns builtinsNs mb ∧ ∀ x : Str, x ≠ "__name__" → mb x = bootBuiltins x
  nolimit : base.NoLimit
structure Cx where
  prog : Program
  w : World
  K : PySem.W.Frag
  mg : Str → Option Value
  base : Heap
  A : Around
  N : List Str
  s₀ : Shared
  H₀ : Hp
  env : Env
  outer : List Env
  stack : List Env
  ex : List Addr
  fn : Str → Bool
  calm : Bool
  hx : Option (Addr × Obj)
  pn : List (Addr × Obj)
  xe : Value → Shared → Prop
def frs (l : List Env) : List Addr := l.filterMap (·.frame)
def HdOk (hx : Option (Addr × Obj)) (A : Around) : Prop := A.handled = none ∨ ∃ a o vs, hx = some (a, o) ∧ A.handled = some (.ref a) ∧ o.data = .fields vs ∧ vs[2]? = some .none
theorem HdOk.mono {hx : Option (Addr × Obj)} {A A' : Around} (h : HdOk hx A) (e : A'.handled = A.handled) : HdOk hx A' := by unfold HdOk at h ⊢; rw [e]; exact h
def HxOk (hx : Option (Addr × Obj)) (H : Hp) : Prop := ∀ a o, hx = some (a, o) → ∃ u, H a = some (.frz o u)
abbrev Cx.fs (X : Cx) : List Addr := frs X.outer
def Vis (sc : Scope) (x : Str) : Prop := sc.names.lookup x = some .local ∨ sc.names.lookup x = some .cell ∨ sc.names.lookup x = some .free
def Loc (sc : Scope) (x : Str) : Prop := sc.names.lookup x = some .local ∨ sc.names.lookup x = some .cell
def Look (env : Env) (h : Heap) (m : Str → Option Value) (x : Str) (u : Value) : Prop :=
  (env.kindOf x = some .local ∧ m x = some u) ∨ ((env.kindOf x = some .cell ∨ env.kindOf x = some .free) ∧ ∃ c, env.cells.lookup x = some c ∧ h.IsCell c (some u))
structure Cx.Ok (X : Cx) : Prop where
  mod : Mod X.K X.mg X.base
  kind : X.env.scope.kind = .function
  glob : X.env.globals = mainGlobals
  blt : X.env.builtins = builtinsNs
  above : X.s₀.heap.objs.size ≤ X.env.locals
  inj : ∀ x y c, X.env.cells.lookup x = some c → X.env.cells.lookup y = some c → x = y
  has : ∀ x, (X.env.kindOf x = some .cell ∨ X.env.kindOf x = some .free) → ∃ c, X.env.cells.lookup x = some c
  cab : ∀ x c, X.fn x = true → X.env.cells.lookup x = some c → X.s₀.heap.objs.size ≤ c
  hd : X.calm = true → X.A.handled = none
  frames : X.A.frames = some X.stack
  stk : X.stack = X.outer ∨ (X.stack = X.env :: X.outer ∧ X.env.frame = some X.env.locals)
  exf : ∀ b ∈ X.ex, b ≠ X.env.locals ∧ ∀ x c, X.env.cells.lookup x = some c → c ≠ b
  bs : ∀ b o, X.base.get? b = some o → X.s₀.heap.get? b = some o ∧ X.H₀ b = none
  bsz : X.base.objs.size ≤ X.s₀.heap.objs.size
  noex : ∀ b o, X.base.get? b = some o → b ∉ X.ex
  exfs : ∀ b ∈ X.ex, b ∉ X.fs
  funs : X.s₀.heap.FunFrames X.base X.outer
  frf : ∀ b ∈ X.fs, X.H₀ b = none
  hnd : HdOk X.hx X.A
structure Inv (X : Cx) (pins : List (Addr × Obj)) (σ : List (Option V)) (H : Hp) (s : Shared) : Prop where
  ok : X.Ok
  os : s.os = X.s₀.os
  bare : AllBare s.gens
  base : Un X.fs X.ex X.H₀ H X.s₀.heap s.heap
  loc : ∃ m, s.heap.Ns X.env.locals m ∧ ∀ (i : Nat) (x : Str) (v : V), X.N[i]? = some x → σ[i]? = some (some v) → Vis X.env.scope x → ∃ u, RelV v u ∧ Look X.env s.heap m x u
  cell : ∀ x c, X.env.cells.lookup x = some c → ∃ v, s.heap.IsCell c v
  free : H X.env.locals = none
  freeC : ∀ x c, X.env.cells.lookup x = some c → H c = none
  pin : ∀ p ∈ X.pn ++ pins, s.heap.get? p.1 = some p.2 ∧ H p.1 = none ∧ p.1 ≠ X.env.locals ∧ p.1 ∉ X.fs ∧ ∀ v, p.2.data ≠ .cell v
  hok : HOk X.prog X.w H s.heap
  len : σ.length = X.N.length
  hxs : HxOk X.hx H
section
variable {X : Cx} {pins : List (Addr × Obj)} {σ : List (Option V)} {H H' : Hp} {s : Shared} {h' : Heap}
theorem Cx.Ok.nofr (ok : X.Ok) {b : Addr} {o : Obj} (e : X.base.get? b = some o) : b ∉ X.fs := fun hb => by
  have := (ok.funs.mem hb).1
  rw [e] at this; cases this
theorem Inv.bs (I : Inv X pins σ H s) : ∀ b o, X.base.get? b = some o → s.heap.get? b = some o ∧ H b = none := fun b o e =>
  ⟨I.base.keep b o (I.ok.bs b o e).1 (I.ok.bs b o e).2 (I.ok.nofr e) (I.ok.noex b o e), I.base.free b o (I.ok.bs b o e).1 (I.ok.bs b o e).2 (I.ok.noex b o e)⟩
theorem Inv.bk (I : Inv X pins σ H s) : ∀ b o, X.base.get? b = some o → s.heap.get? b = some o := fun b o e => (I.bs b o e).1
theorem Inv.mod (I : Inv X pins σ H s) : Mod X.K X.mg X.base := I.ok.mod
theorem Inv.kIn (I : Inv X pins σ H s) : X.K.In s.heap := I.ok.mod.kin.keeps I.bk
theorem Inv.nolimit (I : Inv X pins σ H s) : s.heap.NoLimit := I.ok.mod.nolimit.keeps I.bk
theorem Inv.fr (I : Inv X pins σ H s) : ∃ m, Fr X.base X.env.locals s.heap m :=
  let ⟨m, hn, _⟩ := I.loc
  ⟨m, hn, I.bk, Nat.le_trans I.ok.bsz I.ok.above⟩
theorem Inv.lt (I : Inv X pins σ H s) : X.env.locals < s.heap.objs.size := let ⟨_, hn, _⟩ := I.loc; hn.lt
theorem Inv.sz (I : Inv X pins σ H s) : X.s₀.heap.objs.size ≤ s.heap.objs.size := Nat.le_trans I.ok.above (Nat.le_of_lt I.lt)
theorem Inv.nofs (I : Inv X pins σ H s) {a : Addr} (h : s.heap.objs.size ≤ a) : a ∉ X.fs := fun hb => by
  obtain ⟨_, o, ho, _⟩ := I.ok.funs.mem hb
  exact absurd (Nat.lt_of_lt_of_le (Heap.lt_size ho) (Nat.le_trans I.sz h)) (Nat.lt_irrefl _)
theorem Inv.cne (I : Inv X pins σ H s) : ∀ x c, X.env.cells.lookup x = some c → c ≠ X.env.locals := fun x c e z => by
  obtain ⟨v, o, ho, hd⟩ := I.cell x c e
  obtain ⟨m, ⟨o', es, ep, ho', hd', _⟩, _⟩ := I.loc
  rw [z, ho'] at ho; cases ho; rw [hd'] at hd; cases hd
theorem Inv.funs (I : Inv X pins σ H s) : s.heap.FunFrames X.base X.outer := by
  have all : ∀ (l : List Env), (∀ b ∈ frs l, b ∈ X.fs) → X.s₀.heap.FunFrames X.base l → s.heap.FunFrames X.base l := by
    intro l
    induction l with
    | nil => intro _ _; trivial
    | cons env r ih =>
      intro hs hl
      obtain ⟨hk, ⟨L, o, hf, hn, ho, hd⟩, hr⟩ := hl
      have hL : L ∈ X.fs := hs L (by unfold frs; rw [List.filterMap_cons, hf]; exact List.mem_cons_self)
      obtain ⟨sl, e⟩ := I.base.slot L o ho (I.ok.frf L hL) hL fun z => I.ok.exfs L z hL
      exact ⟨hk, ⟨L, _, hf, hn, e, hd⟩, ih (fun b hb => hs b (by unfold frs; rw [List.filterMap_cons, hf]; exact List.mem_cons_of_mem _ hb)) hr⟩
  exact all X.outer (fun _ hb => hb) I.ok.funs
theorem Inv.stack (I : Inv X pins σ H s) : s.heap.FunFrames X.base X.stack := by
  rcases I.ok.stk with e | ⟨e, hf⟩
  · rw [e]; exact I.funs
  · rw [e]
    obtain ⟨m, hn, _⟩ := I.loc
    refine .cons (by rw [I.ok.kind]; decide) hf hn ?_ I.funs
    exact Heap.get?_none_of_le (Nat.le_trans I.ok.bsz I.ok.above)
theorem Inv.stkSub (I : Inv X pins σ H s) : ∀ b ∈ frs X.stack, b ∈ X.env.locals :: X.fs := fun b hb => by
  rcases I.ok.stk with e | ⟨e, hf⟩
  · rw [e] at hb; exact List.mem_cons_of_mem _ hb
  · rw [e] at hb
    unfold frs at hb
    rw [List.filterMap_cons, hf] at hb
    exact hb
theorem Inv.hdAt (I : Inv X pins σ H s) : HdAt X.A s.heap := by
  rcases I.ok.hnd with e | ⟨a, o, vs, e1, e2, e3, e4⟩
  · exact .inl e
  · obtain ⟨u, z⟩ := I.hxs a o e1
    exact .inr ⟨a, o, vs, e2, (I.hok a _ z).1, e3, e4⟩
theorem Inv.hdNe (I : Inv X pins σ H s) {b : Addr} (h : H b = none) : X.A.handled ≠ some (.ref b) := fun q => by
  rcases I.ok.hnd with e | ⟨a, o, vs, e1, e2, e3, e4⟩
  · rw [e] at q; cases q
  · obtain ⟨u, z⟩ := I.hxs a o e1
    rw [e2] at q; cases q
    rw [h] at z; cases z
theorem Inv.stkFree (I : Inv X pins σ H s) : ∀ b ∈ frs X.stack, H b = none := fun b hb => by
  rcases List.mem_cons.mp (I.stkSub b hb) with e | hb
  · rw [e]; exact I.free
  · obtain ⟨_, o, ho, _⟩ := I.ok.funs.mem hb
    exact I.base.free b o ho (I.ok.frf b hb) fun z => I.ok.exfs b z hb
theorem Inv.step {g' : Array GenState} {t' : Nat} {d' : Drawn} {ch : List Addr} (I : Inv X pins σ H s)
    (hch : ∀ b ∈ ch, (b ∈ X.ex ∨ X.s₀.heap.objs.size ≤ b) ∧ b ≠ X.env.locals ∧ (∀ x c, X.env.cells.lookup x = some c → c ≠ b) ∧ ∀ p ∈ X.pn ++ pins, p.1 ≠ b)
    (keep : ∀ b o, b ≠ X.env.locals → b ∉ X.fs → b ∉ ch → s.heap.get? b = some o → H b = none → h'.get? b = some o)
    (slot : ∀ b o, b ≠ X.env.locals → b ∈ X.fs → b ∉ ch → s.heap.get? b = some o → H b = none → ∃ sl, h'.get? b = some { o with slots := sl }) (free : ∀ b o, b ∉ ch → s.heap.get? b = some o → H b = none → H' b = none)
    (there : ∀ b o, b ∉ ch → s.heap.get? b = some o → ∃ o', h'.get? b = some o')
    (tups : ∀ b xs, H b = some (.tup xs) → H' b = some (.tup xs)) (frzs : ∀ b o u, H b = some (.frz o u) → H' b = some (.frz o u)) (tbls : ∀ b ps, H b = some (.tbl ps) → ∃ more, H' b = some (.tbl (ps ++ more)))
    (ns : ∀ m, s.heap.Ns X.env.locals m → h'.Ns X.env.locals m) (hok : HOk X.prog X.w H' h') (hg : AllBare g') :
    Inv X pins σ H' { s with heap := h', gens := g', drawn := d', toks := t' } := by
  have neL : ∀ b o, X.s₀.heap.get? b = some o → b ≠ X.env.locals := fun b o e => Nat.ne_of_lt (Nat.lt_of_lt_of_le (Heap.lt_size e) I.ok.above)
  have neC : ∀ b o, X.s₀.heap.get? b = some o → b ∉ X.ex → b ∉ ch := fun b o e hx hb => by
    rcases (hch b hb).1 with z | z
    · exact hx z
    · exact absurd (Nat.lt_of_lt_of_le (Heap.lt_size e) z) (Nat.lt_irrefl _)
  have cellK : ∀ x c, X.env.cells.lookup x = some c → ∀ v, s.heap.IsCell c v → h'.IsCell c v := fun x c e v ⟨o, ho, hd⟩ => by
    have nch : c ∉ ch := fun z => (hch c z).2.2.1 x c e rfl
    by_cases hc : c ∈ X.fs
    · obtain ⟨sl, q⟩ := slot c o (I.cne x c e) hc nch ho (I.freeC x c e)
      exact ⟨_, q, hd⟩
    · exact ⟨o, keep c o (I.cne x c e) hc nch ho (I.freeC x c e), hd⟩
  refine ⟨I.ok, I.os, hg, ⟨fun b o e n hb hx => ?_, fun b o e n hb hx => ?_, fun b o e n hx => ?_, fun b o e hx => ?_, fun b xs e => tups b xs (I.base.tups b xs e), fun b o xs e => frzs b o xs (I.base.frzs b o xs e), fun b ps e => ?_⟩, ?_, fun x c e => ?_, ?_, fun x c e => ?_, fun p hp => ?_, hok, I.len, fun a o e => let ⟨u, z⟩ := I.hxs a o e; ⟨u, frzs a o u z⟩⟩
  · exact keep b o (neL b o e) hb (neC b o e hx) (I.base.keep b o e n hb hx) (I.base.free b o e n hx)
  · obtain ⟨sl, e1⟩ := I.base.slot b o e n hb hx
    obtain ⟨sl', e2⟩ := slot b _ (neL b o e) hb (neC b o e hx) e1 (I.base.free b o e n hx)
    exact ⟨sl', e2⟩
  · obtain ⟨o', e1⟩ := I.base.there b o e hx
    exact free b o' (neC b o e hx) e1 (I.base.free b o e n hx)
  · obtain ⟨o', e1⟩ := I.base.there b o e hx
    exact there b o' (neC b o e hx) e1
  · obtain ⟨m1, e1⟩ := I.base.tbls b ps e
    obtain ⟨m2, e2⟩ := tbls b _ e1
    exact ⟨m1 ++ m2, by rw [e2, Array.append_assoc]⟩
  · obtain ⟨m, hn, hl⟩ := I.loc
    refine ⟨m, ns m hn, fun i x v e1 e2 e3 => ?_⟩
    obtain ⟨u, r, l⟩ := hl i x v e1 e2 e3
    refine ⟨u, r, ?_⟩
    rcases l with l | ⟨k, c, e, z⟩
    · exact .inl l
    · exact .inr ⟨k, c, e, cellK x c e _ z⟩
  · obtain ⟨v, z⟩ := I.cell x c e
    exact ⟨v, cellK x c e v z⟩
  · obtain ⟨m, ⟨o, _, _, ho, _⟩, _⟩ := I.loc
    exact free _ o (fun z => (hch _ z).2.1 rfl) ho I.free
  · obtain ⟨v, o, ho, hd⟩ := I.cell x c e
    exact free c o (fun z => (hch c z).2.2.1 x c e rfl) ho (I.freeC x c e)
  · obtain ⟨e, n, ne, nf, d⟩ := I.pin p hp
    have nch : p.1 ∉ ch := fun z => (hch p.1 z).2.2.2 p hp rfl
    exact ⟨keep p.1 p.2 ne nf nch e n, free p.1 p.2 nch e n, ne, nf, d⟩
theorem Inv.un {t' : Nat} (I : Inv X pins σ H s) (u : Un X.fs [] H H' s.heap h') (hok : HOk X.prog X.w H' h') : Inv X pins σ H' { s with heap := h', toks := t' } := by
  obtain ⟨m, ⟨o, es, ep, ho, r⟩, _⟩ := id I.loc
  obtain ⟨sl, hL⟩ := u.any ho I.free (by simp)
  exact I.step (g' := s.gens) (d' := s.drawn) (ch := []) (fun _ z => nomatch z) (fun b o _ hb _ e n => u.keep b o e n hb (by simp)) (fun b o _ hb _ e n => u.slot b o e n hb (by simp)) (fun b o _ e n => u.free b o e n (by simp)) (fun b o _ e => u.there b o e (by simp)) u.tups u.frzs u.tbls (fun m' hm => by
    obtain ⟨o', es', ep', ho', r'⟩ := hm
    rw [ho] at ho'; cases ho'
    exact ⟨_, es', ep', hL, r'⟩) hok I.bare
theorem Inv.call {g' : Array GenState} {t' : Nat} {d' : Drawn} {ch : List Addr} (I : Inv X pins σ H s) (u : Un (frs X.stack) ch H H' s.heap h') (hok : HOk X.prog X.w H' h') (hg : AllBare g')
    (hch : ∀ b ∈ ch, (b ∈ X.ex ∨ X.s₀.heap.objs.size ≤ b) ∧ b ≠ X.env.locals ∧ (∀ x c, X.env.cells.lookup x = some c → c ≠ b) ∧ ∀ p ∈ X.pn ++ pins, p.1 ≠ b) :
    Inv X pins σ H' { s with heap := h', gens := g', drawn := d', toks := t' } := by
  obtain ⟨m, ⟨o, es, ep, ho, r⟩, _⟩ := id I.loc
  obtain ⟨sl, hL⟩ := u.any ho I.free fun z => (hch _ z).2.1 rfl
  exact I.step (ch := ch) hch (fun b o hL hb hc e n => u.keep b o e n (fun z => (List.mem_cons.mp (I.stkSub b z)).elim hL hb) hc) (fun b o _ _ hc e n => u.any e n hc) (fun b o hc e n => u.free b o e n hc) (fun b o hc e => u.there b o e hc) u.tups u.frzs u.tbls (fun m' hm => by
    obtain ⟨o', es', ep', ho', r'⟩ := hm
    rw [ho] at ho'; cases ho'
    exact ⟨_, es', ep', hL, r'⟩) hok hg
theorem Inv.turned {t' : Nat} {it : Addr} (I : Inv X pins σ H s) (k : ∀ b o, b ≠ it → s.heap.get? b = some o → h'.get? b = some o) (hn : H it = none) (hL : it ≠ X.env.locals)
    (h1 : it ∈ X.ex ∨ X.s₀.heap.objs.size ≤ it) (h2 : ∀ x c, X.env.cells.lookup x = some c → c ≠ it) (h3 : ∀ p ∈ X.pn ++ pins, p.1 ≠ it) : Inv X pins σ H { s with heap := h', toks := t' } := by
  have nit : ∀ b u, H b = some u → b ≠ it := fun b u e z => by rw [z, hn] at e; cases e
  refine I.step (g' := s.gens) (d' := s.drawn) (ch := [it]) (fun b hb => ?_) (fun b o _ _ hc e _ => k b o (fun z => hc (by simp [z])) e) (fun b o _ _ hc e _ => ⟨o.slots, k b o (fun z => hc (by simp [z])) e⟩) (fun _ _ _ _ n => n)
    (fun b o hc e => ⟨o, k b o (fun z => hc (by simp [z])) e⟩) (fun _ _ e => e) (fun _ _ _ e => e) (fun b ps e => ⟨#[], by rw [e]; simp⟩) (fun m hm => ?_) (fun b u e => ?_) I.bare
  · have e : b = it := by simpa using hb
    subst e
    exact ⟨h1, hL, h2, h3⟩
  · obtain ⟨o, es, ep, ho, r⟩ := hm
    exact ⟨o, es, ep, k _ o (Ne.symm hL) ho, r⟩
  · refine (I.hok b u e).stay (fun c v hc q => k c v ?_ q) (fun _ q => q) fun _ _ q => q
    rcases hc with z | z
    · rw [z]; exact nit b u e
    · exact nit c _ z
theorem Inv.tok (I : Inv X pins σ H s) (t : Nat) : Inv X pins σ H { s with toks := t } := I.un (h' := s.heap) (t' := t) Un.refl I.hok
theorem Inv.kept {t' : Nat} (I : Inv X pins σ H s) (k : ∀ b u, s.heap.get? b = some u → h'.get? b = some u) : Inv X pins σ H { s with heap := h', toks := t' } := I.un (Un.kept k) (I.hok.kept k)
theorem Inv.laid {a : Addr} {o : HO} {t' : Nat} (I : Inv X pins σ H s) (k : ∀ b u, s.heap.get? b = some u → h'.get? b = some u) (hp : s.heap.objs.size ≤ a) (new : ObjOk X.prog X.w (upd H a o) h' a o) :
    Inv X pins σ (upd H a o) { s with heap := h', toks := t' } := I.un (Un.laid k hp (I.hok.fresh hp)) (I.hok.laid k hp new)
theorem Inv.write {x e : Addr} {o : HO} {t' : Nat} (I : Inv X pins σ H s) (mu : Mut (H x)) (he : e = x ∨ H e = some (.own x)) (k : ∀ b u, b ≠ e → s.heap.get? b = some u → h'.get? b = some u) (heo : ∃ u, h'.get? e = some u)
    (new : ObjOk X.prog X.w (upd H x o) h' x o) : Inv X pins σ (upd H x o) { s with heap := h', toks := t' } := I.un (Un.write mu he k heo) (I.hok.write mu he k heo new)
theorem Inv.weak {σ' : List (Option V)} (I : Inv X pins σ H s) (hl : σ'.length = σ.length) (w : ∀ (i : Nat) v, σ'[i]? = some (some v) → σ[i]? = some (some v)) : Inv X pins σ' H s :=
  ⟨I.ok, I.os, I.bare, I.base, let ⟨m, hn, hl'⟩ := I.loc; ⟨m, hn, fun i x v e1 e2 e3 => hl' i x v e1 (w i v e2) e3⟩, I.cell, I.free, I.freeC, I.pin, I.hok, hl.trans I.len, I.hxs⟩
theorem Inv.pins_of {pins' : List (Addr × Obj)} (I : Inv X pins σ H s) (h : ∀ p ∈ pins', s.heap.get? p.1 = some p.2 ∧ H p.1 = none ∧ p.1 ≠ X.env.locals ∧ p.1 ∉ X.fs ∧ ∀ v, p.2.data ≠ .cell v) : Inv X pins' σ H s :=
  ⟨I.ok, I.os, I.bare, I.base, I.loc, I.cell, I.free, I.freeC, fun p hp => (List.mem_append.mp hp).elim (fun z => I.pin p (List.mem_append_left _ z)) (h p), I.hok, I.len, I.hxs⟩
theorem nodup_ix {N : List Str} (hN : N.Nodup) {i j : Nat} {x : Str} (a : N[i]? = some x) (b : N[j]? = some x) : i = j := by
  obtain ⟨h1, e1⟩ := List.getElem?_eq_some_iff.mp a
  obtain ⟨h2, e2⟩ := List.getElem?_eq_some_iff.mp b
  exact (List.getElem_inj hN).mp (e1.trans e2.symm)
theorem store_ok2 {M : Model} {A : Around} {E : Value → Shared → Prop} {i : Nat} {x : Str} {v : V} {u : Value} {Q : Unit → Shared → Prop} (I : Inv X pins σ H s) (hN : X.N.Nodup) (hi : X.N[i]? = some x) (hx : Loc X.env.scope x) (r : RelV v u)
    (h : ∀ s', Inv X pins (σ.set i (some v)) H s' → (∃ a, Heap.SameBut a s.heap s'.heap ∧ (a = X.env.locals ∨ X.env.cells.lookup x = some a)) → Q () s') (hf : X.fn x = true ∨ X.env.scope.names.lookup x = some .local := by first | exact .inl rfl | exact .inr rfl | assumption) : wpAny M A (storeName X.env x u) Q E s := by
  obtain ⟨m, hn, hl⟩ := id I.loc
  have hcls : (X.env.scope.kind == .class || (X.env.scope.kind == .module && X.env.locals != X.env.globals)) = false := by rw [I.ok.kind]; rfl
  have hiσ : i < σ.length := by rw [I.len]; exact (List.getElem?_eq_some_iff.mp hi).1
  have cne := I.cne
  have tracked : ∀ {a : Addr} {h' : Heap}, (∃ o, s.heap.get? a = some o ∧ H a = none) → Heap.SameBut a s.heap h' → HOk X.prog X.w H h' := fun {a h'} ha hs b ob e => by
    obtain ⟨_, _, hfree⟩ := ha
    refine (I.hok b ob e).stay (fun c w' hc q => (hs.2 c ?_).trans q) (fun _ q => q) fun _ _ q => q
    rintro rfl
    rcases hc with rfl | hc
    · rw [hfree] at e; cases e
    · rw [hfree] at hc; cases hc
  rcases hx with hk | hk
  · refine wpAny_storeName_local hk hn (fun h' hn' hs => ?_) hcls
    obtain ⟨oL, _, _, hoL, _⟩ := id hn
    refine h _ ⟨I.ok, I.os, I.bare, ⟨fun b o e n hb hx => ?_, fun b o e n hb hx => ?_, I.base.free, fun b o e hx => ?_, I.base.tups, I.base.frzs, I.base.tbls⟩, ⟨_, hn', fun j y v' e1 e2 e3 => ?_⟩, fun y c e => ?_, I.free, I.freeC, fun p hp => ?_, tracked ⟨oL, hoL, I.free⟩ hs, by simpa using I.len, I.hxs⟩ ⟨_, hs, .inl rfl⟩
    · exact (hs.2 b (Nat.ne_of_lt (Nat.lt_of_lt_of_le (Heap.lt_size e) I.ok.above))).trans (I.base.keep b o e n hb hx)
    · obtain ⟨sl, e1⟩ := I.base.slot b o e n hb hx
      exact ⟨sl, (hs.2 b (Nat.ne_of_lt (Nat.lt_of_lt_of_le (Heap.lt_size e) I.ok.above))).trans e1⟩
    · obtain ⟨o', e1⟩ := I.base.there b o e hx
      exact ⟨o', (hs.2 b (Nat.ne_of_lt (Nat.lt_of_lt_of_le (Heap.lt_size e) I.ok.above))).trans e1⟩
    · by_cases hj : j = i
      · subst hj
        rw [hi] at e1; cases e1
        rw [List.getElem?_set_self hiσ] at e2
        cases e2
        exact ⟨u, r, .inl ⟨hk, by simp⟩⟩
      · rw [List.getElem?_set_ne (Ne.symm hj)] at e2
        obtain ⟨u', r', q⟩ := hl j y v' e1 e2 e3
        refine ⟨u', r', ?_⟩
        rcases q with ⟨k, e⟩ | ⟨k, c, e, z⟩
        · refine .inl ⟨k, ?_⟩
          have : y ≠ x := fun e => hj (nodup_ix hN e1 (e ▸ hi))
          simp [this, e]
        · exact .inr ⟨k, c, e, z.sameBut hs (cne y c e)⟩
    · obtain ⟨w', z⟩ := I.cell y c e
      exact ⟨w', z.sameBut hs (cne y c e)⟩
    · obtain ⟨e, n, ne, nf, d⟩ := I.pin p hp
      exact ⟨(hs.2 p.1 ne).trans e, n, ne, nf, d⟩
  · have hfn : X.fn x = true := by
      rcases hf with z | z
      · exact z
      · rw [z] at hk; cases hk
    obtain ⟨c, hc⟩ := I.ok.has x (.inl hk)
    obtain ⟨w', z⟩ := I.cell x c hc
    refine wpAny_storeName_cell I.ok.kind hk hc z (fun h' hc' hs => ?_)
    obtain ⟨oc, hoc, hocd⟩ := id z
    refine h { s with heap := h' } ⟨I.ok, I.os, I.bare, ⟨fun b o e n hb hx => ?_, fun b o e n hb hx => ?_, I.base.free, fun b o e hx => ?_, I.base.tups, I.base.frzs, I.base.tbls⟩, ⟨m, hn.sameBut hs (Ne.symm (cne x c hc)), fun j y v' e1 e2 e3 => ?_⟩, fun y c' e => ?_, I.free, I.freeC, fun p hp => ?_, tracked ⟨oc, hoc, I.freeC x c hc⟩ hs, by simpa using I.len, I.hxs⟩ ⟨c, hs, .inr hc⟩
    · exact (hs.2 b (Nat.ne_of_lt (Nat.lt_of_lt_of_le (Heap.lt_size e) (I.ok.cab x c hfn hc)))).trans (I.base.keep b o e n hb hx)
    · obtain ⟨sl, e1⟩ := I.base.slot b o e n hb hx
      exact ⟨sl, (hs.2 b (Nat.ne_of_lt (Nat.lt_of_lt_of_le (Heap.lt_size e) (I.ok.cab x c hfn hc)))).trans e1⟩
    · obtain ⟨o', e1⟩ := I.base.there b o e hx
      exact ⟨o', (hs.2 b (Nat.ne_of_lt (Nat.lt_of_lt_of_le (Heap.lt_size e) (I.ok.cab x c hfn hc)))).trans e1⟩
    · by_cases hj : j = i
      · subst hj
        rw [hi] at e1; cases e1
        rw [List.getElem?_set_self hiσ] at e2
        cases e2
        exact ⟨u, r, .inr ⟨.inl hk, c, hc, hc'⟩⟩
      · rw [List.getElem?_set_ne (Ne.symm hj)] at e2
        obtain ⟨u', r', q⟩ := hl j y v' e1 e2 e3
        refine ⟨u', r', ?_⟩
        rcases q with q | ⟨k, c', e, z'⟩
        · exact .inl q
        · refine .inr ⟨k, c', e, z'.sameBut hs ?_⟩
          rintro rfl
          exact hj (nodup_ix hN e1 (I.ok.inj _ _ _ e hc ▸ hi))
    · by_cases hcc : c' = c
      · subst hcc; exact ⟨_, hc'⟩
      · obtain ⟨w2, z2⟩ := I.cell y c' e
        exact ⟨w2, z2.sameBut hs hcc⟩
    · obtain ⟨e, n, ne, nf, d⟩ := I.pin p hp
      refine ⟨(hs.2 p.1 ?_).trans e, n, ne, nf, d⟩
      intro q
      rw [q, hoc] at e
      have q' : oc = p.2 := Option.some.inj e
      exact d w' (by rw [← q']; exact hocd)
theorem store_ok {M : Model} {A : Around} {E : Value → Shared → Prop} {i : Nat} {x : Str} {v : V} {u : Value} {Q : Unit → Shared → Prop} (I : Inv X pins σ H s) (hN : X.N.Nodup) (hi : X.N[i]? = some x) (hx : Loc X.env.scope x) (r : RelV v u)
    (h : ∀ s', Inv X pins (σ.set i (some v)) H s' → Q () s') (hf : X.fn x = true ∨ X.env.scope.names.lookup x = some .local := by first | exact .inl rfl | exact .inr rfl | assumption) : wpAny M A (storeName X.env x u) Q E s :=
  store_ok2 I hN hi hx r (fun s' I' _ => h s' I') hf
theorem Inv.call' {s' : Shared} {ch : List Addr} (I : Inv X pins σ H s) (ho : s'.os = s.os) (u : Un (frs X.stack) ch H H' s.heap s'.heap) (hok : HOk X.prog X.w H' s'.heap) (hg : AllBare s'.gens)
    (hch : ∀ b ∈ ch, (b ∈ X.ex ∨ X.s₀.heap.objs.size ≤ b) ∧ b ≠ X.env.locals ∧ (∀ x c, X.env.cells.lookup x = some c → c ≠ b) ∧ ∀ p ∈ X.pn ++ pins, p.1 ≠ b) : Inv X pins σ H' s' := by
  obtain ⟨h', g', d', t', o'⟩ := s'
  have e : o' = s.os := ho
  subst e
  exact I.call (g' := g') (t' := t') (d' := d') u hok hg hch
end
abbrev XK := Value → Option Addr → Hp → Prop
abbrev St := List (Option V)
abbrev VK := V → Hp → Prop
abbrev TE := St → Hp → VK → Prop
abbrev TT := St → Hp → (Bool → Hp → Prop) → Prop
abbrev TA := St → Hp → (List V → Hp → Prop) → Prop
structure Ends where
  nx : St → Hp → Prop
  rt : VK
  bk : St → Hp → Prop := fun _ _ => False
  ct : St → Hp → Prop := fun _ _ => False
abbrev TS := Ends → St → Hp → Prop
def EP (X : Cx) (pins : List (Addr × Obj)) (σ : St) (Q : VK) (u : Value) (s' : Shared) : Prop := ∃ v H', Inv X pins σ H' s' ∧ RelV v u ∧ Q v H'
def TP (X : Cx) (pins : List (Addr × Obj)) (σ : St) (Q : Bool → Hp → Prop) (b : Bool) (s' : Shared) : Prop := ∃ H', Inv X pins σ H' s' ∧ Q b H'
def AP (X : Cx) (pins : List (Addr × Obj)) (σ : St) (Q : List V → Hp → Prop) (us : List Value) (s' : Shared) : Prop := ∃ vs H', Inv X pins σ H' s' ∧ Vals vs us ∧ Q vs H'
def SP (X : Cx) (pins : List (Addr × Obj)) (D : Ends) (f : Flow) (s' : Shared) : Prop :=
  match f with
  | .next => ∃ σ' H', Inv X pins σ' H' s' ∧ D.nx σ' H'
  | .brk => ∃ σ' H', Inv X pins σ' H' s' ∧ D.bk σ' H'
  | .cont => ∃ σ' H', Inv X pins σ' H' s' ∧ D.ct σ' H'
  | .ret u => ∃ v σ' H', Inv X pins σ' H' s' ∧ RelV v u ∧ D.rt v H'
structure PE (X : Cx) (e : Expr) (t : TE) : Prop where
  run : ∀ (pins : List (Addr × Obj)) (s : Shared) (σ : St) (H : Hp) (Q : VK), Inv X pins σ H s → t σ H Q → wpAny (model X.prog X.w) X.A (eval e X.env) (EP X pins σ Q) X.xe s
instance {X : Cx} {e : Expr} {t : TE} : CoeFun (PE X e t) (fun _ => ∀ (pins : List (Addr × Obj)) (s : Shared) (σ : St) (H : Hp) (Q : VK), Inv X pins σ H s → t σ H Q → wpAny (model X.prog X.w) X.A (eval e X.env) (EP X pins σ Q) X.xe s) := ⟨fun h => h.run⟩
structure PT (X : Cx) (e : Expr) (t : TT) : Prop where
  run : ∀ (pins : List (Addr × Obj)) (s : Shared) (σ : St) (H : Hp) (Q : Bool → Hp → Prop), Inv X pins σ H s → t σ H Q → wpAny (model X.prog X.w) X.A (isTrue e X.env (eval e X.env)) (TP X pins σ Q) X.xe s
instance {X : Cx} {e : Expr} {t : TT} : CoeFun (PT X e t) (fun _ => ∀ (pins : List (Addr × Obj)) (s : Shared) (σ : St) (H : Hp) (Q : Bool → Hp → Prop), Inv X pins σ H s → t σ H Q → wpAny (model X.prog X.w) X.A (isTrue e X.env (eval e X.env)) (TP X pins σ Q) X.xe s) := ⟨fun h => h.run⟩
structure PW (X : Cx) (e : Expr) (t : TT) : Prop where
  run : ∀ (whole : Sem Value) (pins : List (Addr × Obj)) (s : Shared) (σ : St) (H : Hp) (Q : Bool → Hp → Prop), Inv X pins σ H s → t σ H Q → wpAny (model X.prog X.w) X.A (isTrue e X.env whole) (TP X pins σ Q) X.xe s
instance {X : Cx} {e : Expr} {t : TT} : CoeFun (PW X e t) (fun _ => ∀ (whole : Sem Value) (pins : List (Addr × Obj)) (s : Shared) (σ : St) (H : Hp) (Q : Bool → Hp → Prop), Inv X pins σ H s → t σ H Q → wpAny (model X.prog X.w) X.A (isTrue e X.env whole) (TP X pins σ Q) X.xe s) := ⟨fun h => h.run⟩
theorem PW.pt {X : Cx} {e : Expr} {t : TT} (h : PW X e t) : PT X e t := .mk (h _)
structure PA (X : Cx) (es : List Expr) (t : TA) : Prop where
  run : ∀ (pos : Pos) (pins : List (Addr × Obj)) (s : Shared) (σ : St) (H : Hp) (Q : List V → Hp → Prop), Inv X pins σ H s → t σ H Q → wpAny (model X.prog X.w) X.A (spliced (backTo pos (starEach es X.env))) (AP X pins σ Q) X.xe s
instance {X : Cx} {es : List Expr} {t : TA} : CoeFun (PA X es t) (fun _ => ∀ (pos : Pos) (pins : List (Addr × Obj)) (s : Shared) (σ : St) (H : Hp) (Q : List V → Hp → Prop), Inv X pins σ H s → t σ H Q → wpAny (model X.prog X.w) X.A (spliced (backTo pos (starEach es X.env))) (AP X pins σ Q) X.xe s) := ⟨fun h => h.run⟩
structure PS (X : Cx) (st : Stmt) (t : TS) : Prop where
  run : ∀ (pins : List (Addr × Obj)) (s : Shared) (σ : St) (H : Hp) (D : Ends), Inv X pins σ H s → t D σ H → wpAny (model X.prog X.w) X.A (exec st X.env) (SP X pins D) X.xe s
instance {X : Cx} {st : Stmt} {t : TS} : CoeFun (PS X st t) (fun _ => ∀ (pins : List (Addr × Obj)) (s : Shared) (σ : St) (H : Hp) (D : Ends), Inv X pins σ H s → t D σ H → wpAny (model X.prog X.w) X.A (exec st X.env) (SP X pins D) X.xe s) := ⟨fun h => h.run⟩
structure PSs (X : Cx) (st : List Stmt) (t : TS) : Prop where
  run : ∀ (pins : List (Addr × Obj)) (s : Shared) (σ : St) (H : Hp) (D : Ends), Inv X pins σ H s → t D σ H → wpAny (model X.prog X.w) X.A (execs st X.env) (SP X pins D) X.xe s
instance {X : Cx} {st : List Stmt} {t : TS} : CoeFun (PSs X st t) (fun _ => ∀ (pins : List (Addr × Obj)) (s : Shared) (σ : St) (H : Hp) (D : Ends), Inv X pins σ H s → t D σ H → wpAny (model X.prog X.w) X.A (execs st X.env) (SP X pins D) X.xe s) := ⟨fun h => h.run⟩
theorem thn {α : Type} {t : Sem α} {Q Q' : α → Shared → Prop} {M : Model} {A : Around} {E : Value → Shared → Prop} {s : Shared} (h : wpAny M A t Q E s) (hQ : ∀ a s, Q a s → Q' a s) : wpAny M A t Q' E s := wpAny_mono h hQ fun _ _ x => x
end L2
namespace L2
open PySem PySem.Spec PyProof.Rows
section
variable {X : Cx}
def tVar (i : Nat) : TE := fun σ H Q => ∃ v, σ[i]? = some (some v) ∧ Q v H
def tC (v : V) : TE := fun _ H Q => Q v H
theorem pe_var {i : Nat} {x : Str} {pos : Pos} (hN : X.N[i]? = some x) (hv : Vis X.env.scope x) (hd : (x == ("__debug__" : Str)) = false := by decide) (hcd : (x == ("__classdict__" : Str)) = false := by decide) : PE X (.Name x pos) (tVar i) := by
  constructor
  intro pins s σ H Q I h
  obtain ⟨v, e, h⟩ := h
  obtain ⟨m, hn, hl⟩ := I.loc
  obtain ⟨u, r, l⟩ := hl i x v hN e hv
  have fin : EP X pins σ Q u s := ⟨v, H, I, r, h⟩
  rcases l with ⟨hk, hm⟩ | ⟨hk, c, hc, hcell⟩
  · exact wpAny_Name (wpAny_loadName_local I.ok.kind hk hn hm fin) hd
  · rcases hk with hk | hk
    · exact wpAny_Name (wpAny_loadName_cell I.ok.kind hk hc hcell fin) hd
    · exact wpAny_Name (wpAny_loadName_free I.ok.kind hk hc hcell fin hcd) hd
theorem pe_int {i j pos} : PE X (.Constant (.int i) j pos) (tC (.int i)) := .mk fun _ _ _ H _ I h => wpAny_Constant_int ⟨.int i, H, I.tok _, ⟨_, rfl⟩, h⟩
theorem pe_bl {b j pos} : PE X (.Constant (.bool b) j pos) (tC (.bl b)) := .mk fun _ _ _ H _ I h => Constant_bool ⟨.bl b, H, I, rfl, h⟩
theorem pe_non {j pos} : PE X (.Constant .none j pos) (tC .non) := .mk fun _ _ _ H _ I h => Constant_none ⟨.non, H, I, rfl, h⟩
theorem pe_str {x j pos} : PE X (.Constant (.str x) j pos) (tC (.str x)) := .mk fun _ _ _ H _ I h => Calls.Constant_str ⟨.str x, H, I.tok _, ⟨_, rfl⟩, h⟩
def Gl (X : Cx) (x : Str) : Prop := X.env.kindOf x = some .globalImplicit
theorem ld_glob {E : Value → Shared → Prop} {pins : List (Addr × Obj)} {s : Shared} {σ : St} {H : Hp} {x : Str} {u : Value} {pos : Pos} {Q : Value → Shared → Prop} (I : Inv X pins σ H s) (hg : Gl X x) (hm : X.mg x = some u) (h : Q u s)
    (hd : (x == ("__debug__" : Str)) = false := by decide) : wpAny (model X.prog X.w) X.A (eval (.Name x pos) X.env) Q E s :=
  Calls.Name_function_global I.ok.kind hg (Calls.loadGlobal_global (by rw [I.ok.glob]; exact I.mod.glob.keeps I.bk) hm h) hd
theorem ld_blt {E : Value → Shared → Prop} {pins : List (Addr × Obj)} {s : Shared} {σ : St} {H : Hp} {x : Str} {u : Value} {pos : Pos} {Q : Value → Shared → Prop} (I : Inv X pins σ H s) (hg : Gl X x) (hm : X.mg x = none) (hv : bootBuiltins x = some u) (h : Q u s)
    (hn : x ≠ "__name__" := by decide) (hd : (x == ("__debug__" : Str)) = false := by decide) : wpAny (model X.prog X.w) X.A (eval (.Name x pos) X.env) Q E s := by
  obtain ⟨mb, h1, h2⟩ := I.mod.blt
  exact Calls.Name_function_global I.ok.kind hg (Calls.loadGlobal_builtin (by rw [I.ok.glob]; exact I.mod.glob.keeps I.bk) hm (by rw [I.ok.blt]; exact h1.keeps I.bk) ((h2 x hn).trans hv) h) hd
theorem pe_glob {x : Str} {v : V} {u : Value} {pos : Pos} (hg : Gl X x) (hm : X.mg x = some u) (r : RelV v u) (hd : (x == ("__debug__" : Str)) = false := by decide) : PE X (.Name x pos) (tC v) :=
  .mk fun _ _ _ H _ I h => ld_glob I hg hm ⟨v, H, I, r, h⟩ hd
theorem pe_bltn {x : Str} {v : V} {u : Value} {pos : Pos} (hg : Gl X x) (hm : X.mg x = none) (hv : bootBuiltins x = some u) (r : RelV v u) (hn : x ≠ "__name__" := by decide) (hd : (x == ("__debug__" : Str)) = false := by decide) : PE X (.Name x pos) (tC v) :=
  .mk fun _ _ _ H _ I h => ld_blt I hg hm hv ⟨v, H, I, r, h⟩ hn hd
def t2I (ta tb : TE) (k : Int → Int → Hp → Prop) : St → Hp → Prop := fun σ H => ta σ H fun x H1 => tb σ H1 fun y H2 => ∃ i j, x = .int i ∧ y = .int j ∧ k i j H2
def tAdd (ta tb : TE) : TE := fun σ H Q => t2I ta tb (fun i j H2 => Q (.int (i + j)) H2) σ H
def tSub (ta tb : TE) : TE := fun σ H Q => t2I ta tb (fun i j H2 => Q (.int (i - j)) H2) σ H
def tMul (ta tb : TE) : TE := fun σ H Q => t2I ta tb (fun i j H2 => (-(2 ^ 64) < i ∧ i < 2 ^ 64) ∧ Q (.int (i * j)) H2) σ H
variable {a b : Expr} {ta tb : TE} {pos : Pos}
structure PC (X : Cx) (op : CmpOp) (a b : Expr) (t : TE) : Prop where
  run : ∀ (pins : List (Addr × Obj)) (s : Shared) (σ : St) (H : Hp) (Q : VK), Inv X pins σ H s → t σ H Q →
    wpAny (model X.prog X.w) X.A (eval a X.env) (fun v s₁ => wpAny (model X.prog X.w) X.A (eval b X.env) (fun u s₂ => wpAny (model X.prog X.w) X.A (compareOp op v u) (EP X pins σ Q) X.xe s₂) X.xe s₁) X.xe s
instance {X : Cx} {op : CmpOp} {a b : Expr} {t : TE} : CoeFun (PC X op a b t) (fun _ => ∀ (pins : List (Addr × Obj)) (s : Shared) (σ : St) (H : Hp) (Q : VK), Inv X pins σ H s → t σ H Q →
    wpAny (model X.prog X.w) X.A (eval a X.env) (fun v s₁ => wpAny (model X.prog X.w) X.A (eval b X.env) (fun u s₂ => wpAny (model X.prog X.w) X.A (compareOp op v u) (EP X pins σ Q) X.xe s₂) X.xe s₁) X.xe s) := ⟨fun h => h.run⟩
def tCmp (p : Int → Int → Bool) (ta tb : TE) : TE := fun σ H Q => t2I ta tb (fun i j H2 => Q (.bl (p i j)) H2) σ H
abbrev tLt : TE → TE → TE := tCmp fun i j => decide (i < j)
abbrev tLe : TE → TE → TE := tCmp fun i j => decide (i ≤ j)
abbrev tGt : TE → TE → TE := tCmp fun i j => decide (j < i)
abbrev tGe : TE → TE → TE := tCmp fun i j => decide (j ≤ i)
abbrev tEqI : TE → TE → TE := tCmp fun i j => decide (i = j)
abbrev tNeI : TE → TE → TE := tCmp fun i j => !decide (i = j)
def tIsN (ta : TE) : TE := fun σ H Q => ta σ H fun x H1 => Q (.bl (decide (x = .non))) H1
def tNotN (ta : TE) : TE := fun σ H Q => ta σ H fun x H1 => Q (.bl (!decide (x = .non))) H1
def tB (t : TE) : TT := fun σ H Q => t σ H fun x H1 => ∃ c, x = .bl c ∧ Q c H1
theorem pt_val {e : Expr} {t : TE} (h : PE X e t) (he : ∀ whole, isTrue e X.env whole = (do let v ← whole; standAt e.pos; holding [v] (truthy v)) := by intro _; rfl) : PT X e (tB t) := by
  constructor
  intro pins s σ H Q I hw
  refine isTrue_plain (thn (h pins s σ H _ I hw) fun v s1 ⟨x, H1, I1, r1, q1⟩ => ?_) (he _)
  obtain ⟨d, rfl, q⟩ := q1
  cases r1
  exact wpAny_truthy_bool ⟨H1, I1, q⟩
variable {tA tB' : TT} {rest : List Expr}
def tAnd (t u : TT) : TT := fun σ H Q => t σ H fun c H1 => if c = true then u σ H1 Q else Q false H1
def tOr (t u : TT) : TT := fun σ H Q => t σ H fun c H1 => if c = true then Q true H1 else u σ H1 Q
def tNot (t : TT) : TT := fun σ H Q => t σ H fun c H1 => Q (!c) H1
theorem pw_or1 (ha : PT X a tA) : PW X (.BoolOp .Or [a] pos) tA := by
  constructor
  intro wh pins s σ H Q I h
  refine isTrue_or (thn (ha pins s σ H Q I h) fun c s1 e => ?_)
  cases c with
  | false => exact isTrue_or_nil e
  | true => exact e
theorem pw_or (ha : PT X a tA) (hb : PW X (.BoolOp .Or (b :: rest) pos) tB') : PW X (.BoolOp .Or (a :: b :: rest) pos) (tOr tA tB') := by
  constructor
  intro wh pins s σ H Q I h
  refine isTrue_or (thn (ha pins s σ H _ I h) fun c s1 ⟨H1, I1, q1⟩ => ?_)
  cases c with
  | true => exact ⟨H1, I1, q1⟩
  | false => exact hb wh pins s1 σ H1 Q I1 q1
theorem pt_not (ha : PT X a tA) : PT X (.UnaryOp .Not a pos) (tNot tA) := by
  constructor
  intro pins s σ H Q I h
  exact isTrue_not (ha pins s σ H (fun c H1 => Q (!c) H1) I h)
def tAndV (ta tb : TE) : TE := fun σ H Q => ta σ H fun x H1 => ∃ c, x = .bl c ∧ if c = true then tb σ H1 Q else Q (.bl false) H1
def tOrV (ta tb : TE) : TE := fun σ H Q => ta σ H fun x H1 => ∃ c, x = .bl c ∧ if c = true then Q (.bl true) H1 else tb σ H1 Q
def tNotV (ta : TE) : TE := fun σ H Q => ta σ H fun x H1 => ∃ c, x = .bl c ∧ Q (.bl (!c)) H1
def tIf (t : TT) (ta tb : TE) : TE := fun σ H Q => t σ H fun c H1 => if c = true then ta σ H1 Q else tb σ H1 Q
end
end L2
namespace L2
open PySem PySem.Spec PyProof.Rows
def SqL (K : PySem.W.Frag) (H : Hp) (a : Addr) (xs : List V) : Prop :=
  Rd H a (.lst xs) ∨
    ∃ (o : Obj) (its : Array Value) (n : Nat), K.lookup a = some o ∧ o.cls = .type "list" ∧ o.dict = none ∧ o.data = .seq its n ∧ its.size ≤ sizeLine ∧ Vals xs its.toList
def SqT (K : PySem.W.Frag) (H : Hp) (a : Addr) (xs : List V) : Prop :=
  Rd H a (.tup xs) ∨
    ∃ (o : Obj) (its : Array Value) (n : Nat), K.lookup a = some o ∧ o.cls = .type "tuple" ∧ o.data = .seq its n ∧ its.size ≤ sizeLine ∧ Vals xs its.toList
def absV : Value → Option V
  | .none => some .non
  | .bool b => some (.bl b)
  | .int i _ => some (.int i)
  | .str x _ => some (.str x)
  | .bytes b _ => some (.byt b)
  | .float b _ => some (.flt b)
  | .ref a => some (.ref a)
  | .type n => some (.ty n)
  | _ => none
theorem RelV.abs {x : V} {u : Value} (r : RelV x u) : absV u = some x := by
  cases x with
  | non => cases r; rfl
  | bl _ => cases r; rfl
  | int _ => obtain ⟨t, rfl⟩ := r; rfl
  | str _ => obtain ⟨t, rfl⟩ := r; rfl
  | byt _ => obtain ⟨t, rfl⟩ := r; rfl
  | flt _ => obtain ⟨t, rfl⟩ := r; rfl
  | ref _ => cases r; rfl
  | ty _ => cases r; rfl
theorem RelV.inj {x y : V} {u : Value} (r : RelV x u) (q : RelV y u) : x = y := Option.some.inj (r.abs.symm.trans q.abs)
theorem Vals.inj : ∀ {xs ys : List V} {us : List Value}, Vals xs us → Vals ys us → xs = ys
  | _, _, _, .nil, .nil => rfl
  | _, _, _, .cons r t, .cons r' t' => by rw [r.inj r', Vals.inj t t']
section
variable {X : Cx} {pins : List (Addr × Obj)} {σ : St} {H : Hp} {s : Shared} {a : Addr} {xs ys : List V}
theorem SqL.of {K : PySem.W.Frag} (h : H a = some (.lst xs)) : SqL K H a xs := .inl (.inl h)
theorem SqT.of {K : PySem.W.Frag} (h : H a = some (.tup xs)) : SqT K H a xs := .inl (.inl h)
theorem Inv.list (I : Inv X pins σ H s) (h : SqL X.K H a xs) : ∃ its : List Value, Vals xs its ∧ PlainL s.heap a its.toArray ∧ xs.length ≤ sizeLine := by
  rcases h with h | ⟨o, its, n, hk, hc, hd, hs, hz, r⟩
  · obtain ⟨z, its, n, r, e⟩ := h.ok I.hok
    exact ⟨its, r, ⟨_, n, e, rfl, rfl, rfl⟩, z⟩
  · refine ⟨its.toList, r, ⟨o, n, I.kIn a o hk, hc, hd, by simpa using hs⟩, ?_⟩
    have e := r.length
    simp only [Array.length_toList] at e
    omega
theorem Inv.tuple (I : Inv X pins σ H s) (h : SqT X.K H a xs) : ∃ its : List Value, Vals xs its ∧ IsTup s.heap a its.toArray ∧ xs.length ≤ sizeLine := by
  rcases h with h | ⟨o, its, n, hk, hc, hs, hz, r⟩
  · obtain ⟨z, its, r, p⟩ := h.ok I.hok
    exact ⟨its, r, p, z⟩
  · refine ⟨its.toList, r, ⟨o, I.kIn a o hk, hc, n, by simpa using hs⟩, ?_⟩
    have e := r.length
    simp only [Array.length_toList] at e
    omega
theorem Inv.list_inj (I : Inv X pins σ H s) (h : SqL X.K H a xs) (h' : SqL X.K H a ys) : xs = ys := by
  obtain ⟨its, r, ⟨o, n, e, _, _, d⟩, _⟩ := I.list h
  obtain ⟨its', r', ⟨o', n', e', _, _, d'⟩, _⟩ := I.list h'
  rw [e] at e'; cases e'
  rw [d] at d'
  injection d' with d1 _
  have : its = its' := by simpa using congrArg Array.toList d1
  subst this
  exact r.inj r'
end
abbrev Cx.wish (X : Cx) (E : Value → Shared → Prop) : Cx := { X with xe := E }
abbrev Cx.nox (X : Cx) : Cx := X.wish fun _ _ => False
theorem Cx.Ok.wish {X : Cx} (ok : X.Ok) (E : Value → Shared → Prop) : (X.wish E).Ok :=
  ⟨ok.mod, ok.kind, ok.glob, ok.blt, ok.above, ok.inj, ok.has, ok.cab, ok.hd, ok.frames, ok.stk, ok.exf, ok.bs, ok.bsz, ok.noex, ok.exfs, ok.funs, ok.frf, ok.hnd⟩
theorem Cx.Ok.unwish {X : Cx} {E : Value → Shared → Prop} (ok : (X.wish E).Ok) : X.Ok :=
  ⟨ok.mod, ok.kind, ok.glob, ok.blt, ok.above, ok.inj, ok.has, ok.cab, ok.hd, ok.frames, ok.stk, ok.exf, ok.bs, ok.bsz, ok.noex, ok.exfs, ok.funs, ok.frf, ok.hnd⟩
section
variable {X : Cx} {pins : List (Addr × Obj)} {σ : St} {H : Hp} {s : Shared} {E : Value → Shared → Prop}
theorem Inv.wish (I : Inv X pins σ H s) (E : Value → Shared → Prop) : Inv (X.wish E) pins σ H s := ⟨I.ok.wish E, I.os, I.bare, I.base, I.loc, I.cell, I.free, I.freeC, I.pin, I.hok, I.len, I.hxs⟩
theorem Inv.unwish (I : Inv (X.wish E) pins σ H s) : Inv X pins σ H s := ⟨I.ok.unwish, I.os, I.bare, I.base, I.loc, I.cell, I.free, I.freeC, I.pin, I.hok, I.len, I.hxs⟩
theorem SP.unwish {D : Ends} {f : Flow} {s' : Shared} (h : SP (X.wish E) pins D f s') : SP X pins D f s' := by
  cases f with
  | next => obtain ⟨σ', H', I, q⟩ := h; exact ⟨σ', H', I.unwish, q⟩
  | brk => obtain ⟨σ', H', I, q⟩ := h; exact ⟨σ', H', I.unwish, q⟩
  | cont => obtain ⟨σ', H', I, q⟩ := h; exact ⟨σ', H', I.unwish, q⟩
  | ret u => obtain ⟨v, σ', H', I, r, q⟩ := h; exact ⟨v, σ', H', I.unwish, r, q⟩
theorem PE.nox {e : Expr} {t : TE} (h : PE X.nox e t) : PE X e t := .mk fun pins s σ H Q I hw =>
  wpAny_mono (h pins s σ H Q (I.wish _) hw) (fun _ _ ⟨v, H', I', r, q⟩ => ⟨v, H', I'.unwish, r, q⟩) fun _ _ z => False.elim z
theorem PT.nox {e : Expr} {t : TT} (h : PT X.nox e t) : PT X e t := .mk fun pins s σ H Q I hw =>
  wpAny_mono (h pins s σ H Q (I.wish _) hw) (fun _ _ ⟨H', I', q⟩ => ⟨H', I'.unwish, q⟩) fun _ _ z => False.elim z
theorem PSs.nox {st : List Stmt} {t : TS} (h : PSs X.nox st t) : PSs X st t := .mk fun pins s σ H D I hw =>
  wpAny_mono (h pins s σ H D (I.wish _) hw) (fun _ _ q => q.unwish) fun _ _ z => False.elim z
end
section
variable {X : Cx} {st : Stmt} {rest : List Stmt} {t u : TS} {e : Expr} {te : TE} {pos : Pos}
def tNext : TS := fun D σ H => D.nx σ H
def tSeq (t u : TS) : TS := fun D σ H => t { D with nx := u D } σ H
theorem pss_nil : PSs X [] tNext := .mk fun _ _ σ H _ I h => wpAny_execs_nil ⟨σ, H, I, h⟩
theorem pss_cons (h1 : PS X st t) (h2 : PSs X rest u) : PSs X (st :: rest) (tSeq t u) := by
  constructor
  intro pins s σ H D I h
  refine wpAny_execs_cons (thn (h1 pins s σ H { D with nx := u D } I h) fun f s1 q => ?_)
  cases f with
  | next =>
    obtain ⟨σ', H', I', q⟩ := q
    exact h2 pins s1 σ' H' D I' q
  | ret v => exact q
  | brk => exact q
  | cont => exact q
theorem pss_one (h1 : PS X st t) : PSs X [st] t := by
  constructor
  intro pins s σ H D I h
  refine wpAny_execs_cons (thn (h1 pins s σ H D I h) fun f s1 q => ?_)
  cases f with
  | next => exact wpAny_execs_nil q
  | ret v => exact q
  | brk => exact q
  | cont => exact q
def tBreak : TS := fun D σ H => D.bk σ H
def tCont : TS := fun D σ H => D.ct σ H
theorem Inv.quiet {pins : List (Addr × Obj)} {σ : St} {H : Hp} {s : Shared} (I : Inv X pins σ H s) : interactive X.env = false := by simp [interactive, I.ok.kind]
def tDrop (te : TE) : TS := fun D σ H => te σ H fun _ H1 => D.nx σ H1
theorem ps_expr (he : PE X e te) (hs : swapsWith e none pos.line X.env = pure false := by rfl) : PS X (.Expr e pos) (tDrop te) := by
  constructor
  intro pins s σ H D I h
  exact wpAny_Expr_any (thn (he pins s σ H _ I h) fun v s1 ⟨x, H1, I1, r1, q1⟩ => ⟨σ, H1, I1, q1⟩) I.quiet hs
def tRet (te : TE) : TS := fun D σ H => te σ H D.rt
theorem ps_ret (he : PE X e te) : PS X (.Return (some e) pos) (tRet te) := by
  constructor
  intro pins s σ H D I h
  exact wpAny_Return_some (thn (he pins s σ H _ I h) fun v s1 ⟨x, H1, I1, r1, q1⟩ => ⟨x, σ, H1, I1, r1, q1⟩)
def tRetN : TS := fun D _ H => D.rt .non H
def tIfS (c : TT) (t u : TS) : TS := fun D σ H => c σ H fun b H1 => if b = true then t D σ H1 else u D σ H1
theorem ps_if {c : Expr} {a b : List Stmt} {tc : TT} (hc : PT X c tc) (ha : PSs X a t) (hb : PSs X b u) : PS X (.If c a b pos) (tIfS tc t u) := by
  constructor
  intro pins s σ H D I h
  refine wpAny_If (thn (hc pins s σ H _ I h) fun d s1 ⟨H1, I1, q1⟩ => ?_)
  cases d with
  | true => exact ha pins s1 σ H1 D I1 q1
  | false => exact hb pins s1 σ H1 D I1 q1
def tNever : TS := fun _ _ _ => False
end
abbrev TG := V → St → Hp → (St → Hp → Prop) → Prop
abbrev TGs := List V → St → Hp → (St → Hp → Prop) → Prop
structure PG (X : Cx) (target : Expr) (t : TG) : Prop where
  run : ∀ (pins : List (Addr × Obj)) (s : Shared) (σ : St) (H : Hp) (v : V) (u : Value) (Q : St → Hp → Prop), Inv X pins σ H s → RelV v u → t v σ H Q →
    wpAny (model X.prog X.w) X.A (assign target X.env u) (fun _ s' => ∃ σ' H', Inv X pins σ' H' s' ∧ Q σ' H') X.xe s
instance {X : Cx} {target : Expr} {t : TG} : CoeFun (PG X target t) (fun _ => ∀ (pins : List (Addr × Obj)) (s : Shared) (σ : St) (H : Hp) (v : V) (u : Value) (Q : St → Hp → Prop), Inv X pins σ H s → RelV v u → t v σ H Q →
    wpAny (model X.prog X.w) X.A (assign target X.env u) (fun _ s' => ∃ σ' H', Inv X pins σ' H' s' ∧ Q σ' H') X.xe s) := ⟨fun h => h.run⟩
structure PGs (X : Cx) (ts : List Expr) (t : TGs) : Prop where
  run : ∀ (pins : List (Addr × Obj)) (s : Shared) (σ : St) (H : Hp) (vs : List V) (us : List Value) (Q : St → Hp → Prop), Inv X pins σ H s → Vals vs us → t vs σ H Q →
    wpAny (model X.prog X.w) X.A (assignInOrder ((assignEach ts X.env).map (·.2)) us) (fun _ s' => ∃ σ' H', Inv X pins σ' H' s' ∧ Q σ' H') X.xe s
instance {X : Cx} {ts : List Expr} {t : TGs} : CoeFun (PGs X ts t) (fun _ => ∀ (pins : List (Addr × Obj)) (s : Shared) (σ : St) (H : Hp) (vs : List V) (us : List Value) (Q : St → Hp → Prop), Inv X pins σ H s → Vals vs us → t vs σ H Q →
    wpAny (model X.prog X.w) X.A (assignInOrder ((assignEach ts X.env).map (·.2)) us) (fun _ s' => ∃ σ' H', Inv X pins σ' H' s' ∧ Q σ' H') X.xe s) := ⟨fun h => h.run⟩
abbrev TSet := V → V → V → Hp → (Hp → Prop) → Prop
def PSet (X : Cx) (t : TSet) : Prop :=
  ∀ (pins : List (Addr × Obj)) (s : Shared) (σ : St) (H : Hp) (o i v : V) (ov iv u : Value) (Q : Hp → Prop), Inv X pins σ H s → RelV o ov → RelV i iv → RelV v u → t o i v H Q →
    wpAny (model X.prog X.w) X.A (setItem ov iv u) (fun _ s' => ∃ H', Inv X pins σ H' s' ∧ Q H') X.xe s
abbrev TIp := V → V → Hp → VK → Prop
def PIp (X : Cx) (op : Operator) (t : TIp) : Prop :=
  ∀ (pins : List (Addr × Obj)) (s : Shared) (σ : St) (H : Hp) (x y : V) (v u : Value) (Q : VK), Inv X pins σ H s → RelV x v → RelV y u → t x y H Q →
    wpAny (model X.prog X.w) X.A (inplaceOp op v u) (EP X pins σ Q) X.xe s
section
variable {X : Cx} {pos : Pos}
abbrev gName (i : Nat) : TG := fun v σ H Q => Q (σ.set i (some v)) H
theorem pg_name {i : Nat} {x : Str} (hN : X.N.Nodup) (hi : X.N[i]? = some x) (hx : Loc X.env.scope x) (hf : X.fn x = true ∨ X.env.scope.names.lookup x = some .local := by first | exact .inl rfl | exact .inr rfl | assumption) : PG X (.Name x pos) (gName i) := by
  constructor
  intro pins s σ H v u Q I r h
  exact wpAny_assign_Name (store_ok I hN hi hx r (fun s' I' => ⟨_, H, I', h⟩) hf)
def gNil : TGs := fun vs σ H Q => vs = [] ∧ Q σ H
def gCons (t : TG) (u : TGs) : TGs := fun vs σ H Q => ∃ v r, vs = v :: r ∧ t v σ H fun σ' H' => u r σ' H' Q
theorem pgs_nil : PGs X [] gNil := by
  constructor
  intro pins s σ H vs us Q I r h
  obtain ⟨e, h⟩ := h
  subst e
  cases r
  exact assignInOrder_nil ⟨σ, H, I, h⟩
theorem pgs_cons {e : Expr} {es : List Expr} {t : TG} {u : TGs} (h1 : PG X e t) (h2 : PGs X es u)
    (hs : (assignEach (e :: es) X.env).map (·.2) = assign e X.env :: (assignEach es X.env).map (·.2) := by rfl) : PGs X (e :: es) (gCons t u) := by
  constructor
  intro pins s σ H vs us Q I r h
  obtain ⟨v, vr, e1, h⟩ := h
  subst e1
  cases r with
  | cons r rr =>
    rw [hs]
    refine assignInOrder_cons (thn (h1 pins s σ H _ _ _ I r h) fun _ s1 ⟨σ1, H1, I1, q1⟩ => ?_)
    exact h2 pins s1 σ1 H1 _ _ Q I1 rr q1
def gTup (K : PySem.W.Frag) (n : Nat) (t : TGs) : TG := fun v σ H Q => ∃ a xs, v = .ref a ∧ SqT K H a xs ∧ xs.length = n ∧ t xs σ H Q
theorem pg_tup {es : List Expr} {k : Nat} {t : TGs} {n : Nat} (hc : X.calm = true) (h : PGs X es t)
    (hn : (assignEach es X.env).length = n := by rfl) (hst : (assignEach es X.env).findIdx? (·.1) = none := by rfl) : PG X (.Tuple es k pos) (gTup X.K n t) := by
  constructor
  intro pins s σ H v u Q I r hw
  obtain ⟨a, xs, e1, hq, hl, hw⟩ := hw
  subst e1
  cases r
  obtain ⟨its, rv, ht, hz⟩ := I.tuple hq
  refine assign_Tuple_tuple (I.ok.hd hc) ht (by simp [hn, ← hl, rv.length]) hst fun h' hx => ?_
  have I1 : Inv X pins σ H { s with heap := h' } := I.kept (t' := s.toks) fun b o e => hx b o (Nat.ne_of_lt (Heap.lt_size e)) e
  exact h pins _ σ H xs _ Q I1 (by simpa using rv) hw
def gSub (to ti : TE) (t : TSet) : TG := fun v σ H Q => to σ H fun o H1 => ti σ H1 fun i H2 => t o i v H2 fun H3 => Q σ H3
theorem pg_sub {o i : Expr} {to ti : TE} {t : TSet} (ho : PE X o to) (hi : PE X i ti) (hs : PSet X t)
    (ha : ∀ v, assign (.Subscript o i pos) X.env v = (do
      let ov ← holding [v] (eval o X.env)
      let iv ← holding [v, ov] (eval i X.env)
      standAt pos
      holding [v, ov, iv] (setItem ov iv v)
      release [v, ov, iv] []) := by intro _; rfl) : PG X (.Subscript o i pos) (gSub to ti t) := by
  constructor
  intro pins s σ H v u Q I r h
  rw [ha]
  refine wpAny_bind (wpAny_holding (thn (ho pins s σ H _ I h) fun ov s1 ⟨x, H1, I1, r1, q1⟩ => ?_))
  refine wpAny_bind (wpAny_holding (thn (hi pins s1 σ H1 _ I1 q1) fun iv s2 ⟨y, H2, I2, r2, q2⟩ => ?_))
  refine wpAny_bind (wpAny_standAt (wpAny_bind (wpAny_holding (thn (hs pins s2 σ H2 x y v ov iv u _ I2 r1 r2 r q2) fun _ s3 ⟨H3, I3, q3⟩ => ?_))))
  exact wpAny_release ⟨σ, H3, I3, q3⟩
def tAsg (te : TE) (g : TG) : TS := fun D σ H => te σ H fun x H1 => g x σ H1 D.nx
theorem ps_asg {tg e : Expr} {te : TE} {g : TG} (he : PE X e te) (hg : PG X tg g) (hs : swapsWithSole [tg] e pos.line X.env = pure false := by rfl) (hw : swappedStores [tg] e X.env = pure none := by rfl)
    (h1 : (assignEach [tg] X.env).map (·.2) = [assign tg X.env] := by rfl) : PS X (.Assign [tg] e pos) (tAsg te g) := by
  constructor
  intro pins s σ H D I h
  refine wpAny_Assign_stores (thn (he pins s σ H _ I h) fun v s1 ⟨x, H1, I1, r1, q1⟩ => ?_) hs hw
  rw [h1]
  exact thn (hg pins s1 σ H1 x v _ I1 r1 q1) fun _ s2 q => q
theorem ps_set {i : Nat} {x : Str} {e : Expr} {te : TE} {pos' : Pos} (hN : X.N.Nodup) (hi : X.N[i]? = some x) (hx : Loc X.env.scope x) (he : PE X e te) (hs : swapsWith e (some (.Name x pos')) pos.line X.env = pure false := by rfl) (hf : X.fn x = true ∨ X.env.scope.names.lookup x = some .local := by first | exact .inl rfl | exact .inr rfl | assumption) :
    PS X (.Assign [.Name x pos'] e pos) (tAsg te (gName i)) := by
  constructor
  intro pins s σ H D I h
  refine wpAny_Assign_Name (thn (he pins s σ H _ I h) fun v s1 ⟨y, H1, I1, r1, q1⟩ => ?_) hs
  exact store_ok I1 hN hi hx r1 (fun s2 I2 => ⟨_, H1, I2, q1⟩) hf
def tPar (i j : Nat) (ta : TA) : TS := fun D σ H => ta σ H fun vs H1 => ∃ v w, vs = [v, w] ∧ D.nx ((σ.set i (some v)).set j (some w)) H1
theorem ps_par {i j : Nat} {x y : Str} {a b : Expr} {ta : TA} {px py pt : Pos} {kt k2 pt2} (hc : X.calm = true) (hN : X.N.Nodup) (hi : X.N[i]? = some x) (hj : X.N[j]? = some y) (hij : i ≠ j)
    (hx : X.env.scope.names.lookup x = some .local) (hy : X.env.scope.names.lookup y = some .local) (ha : PA X [a, b] ta)
    (hw : swappedStores [.Tuple [.Name x px, .Name y py] kt pt] (.Tuple [a, b] k2 pt2) X.env = pure (some [x, y]))
    (hs : swapsWithSole [.Tuple [.Name x px, .Name y py] kt pt] (.Tuple [a, b] k2 pt2) pos.line X.env = pure false := by rfl) :
    PS X (.Assign [.Tuple [.Name x px, .Name y py] kt pt] (.Tuple [a, b] k2 pt2) pos) (tPar i j ta) := by
  constructor
  intro pins s σ H D I h
  rw [exec_Assign_arm]
  refine wpAny_bind (wpAny_standAt ?_)
  rw [hs]
  refine wpAny_bind (wpAny_pure ?_)
  rw [if_neg (by decide)]
  refine wpAny_bind (Tuple_ (thn (ha _ pins s σ H _ I h) fun us s1 ⟨vs, H1, I1, r1, q1⟩ => ?_))
  obtain ⟨v, w, e1, q1⟩ := q1
  subst e1
  obtain ⟨u1, u2, rfl, rv, rw'⟩ : ∃ u1 u2, us = [u1, u2] ∧ RelV v u1 ∧ RelV w u2 := by
    cases r1 with
    | cons p q =>
      cases q with
      | cons p' q' =>
        cases q'
        exact ⟨_, _, rfl, p, p'⟩
  refine wpAny_newObj_type ?_ (by show 2 ≤ sizeLine; decide)
  have I2 : Inv X pins σ H1 { s1 with heap := s1.heap.push { cls := .type "tuple", data := .seq [u1, u2].toArray } } := I1.kept (t' := s1.toks) fun b o e => Heap.get?_push_of_some _ e
  rw [hw]
  refine wpAny_bind (wpAny_pure ?_)
  show wpAny (model X.prog X.w) X.A (do rule "assign.swapped-stores"; let items ← unpackItems (.ref s1.heap.objs.size) 2 none; assignInOrder [fun v => bindName X.env y v, fun v => bindName X.env x v] items.reverse; pure Flow.next) _ _ _
  refine wpAny_bind (wpAny_rule (wpAny_bind (unpackItems_tuple (items := #[u1, u2]) (I.ok.hd hc) (IsTup.new s1.heap _) fun h' hx' => ?_)))
  have I3 := I2.kept (h' := h') (t' := s1.toks) fun b o e => hx' b o (Nat.ne_of_lt (Heap.lt_size e)) e
  show wpAny _ _ (assignInOrder [fun v => bindName X.env y v, fun v => bindName X.env x v] [u2, u1] >>= fun _ => pure Flow.next) _ _ _
  refine wpAny_bind (assignInOrder_cons (wpAny_bindName (store_ok I3 hN hj (.inl hy) rw' (fun s2 I4 => ?_) (.inr hy))))
  refine assignInOrder_cons (wpAny_bindName (store_ok I4 hN hi (.inl hx) rv (fun s3 I5 => assignInOrder_nil (wpAny_pure ?_)) (.inr hx)))
  rw [List.set_comm _ _ (Ne.symm hij)] at I5
  exact ⟨_, H1, I5, q1⟩
def tAug (i : Nat) (te : TE) (ti : TIp) : TS := fun D σ H => ∃ x, σ[i]? = some (some x) ∧ te σ H fun y H1 => ti x y H1 fun z H2 => D.nx (σ.set i (some z)) H2
def tAugS (to ti te : TE) (tget : V → V → Hp → VK → Prop) (tip : TIp) (tset : TSet) : TS := fun D σ H => to σ H fun o H1 => ti σ H1 fun i H2 => tget o i H2 fun x H3 => te σ H3 fun y H4 => tip x y H4 fun z H5 => tset o i z H5 fun H6 => D.nx σ H6
def PGet (X : Cx) (t : V → V → Hp → VK → Prop) : Prop :=
  ∀ (pins : List (Addr × Obj)) (s : Shared) (σ : St) (H : Hp) (o i : V) (ov iv : Value) (Q : VK), Inv X pins σ H s → RelV o ov → RelV i iv → t o i H Q →
    wpAny (model X.prog X.w) X.A (getItem ov iv) (EP X pins σ Q) X.xe s
def ipI (f : Int → Int → Int) : TIp := fun x y H Q => ∃ i j, x = .int i ∧ y = .int j ∧ Q (.int (f i j)) H
end
section
variable {X : Cx} {pos : Pos}
def tWhile (c : TT) (tb : TS) : TS := fun D σ H => ∃ W : Nat → St → Hp → Prop, (∃ m, W m σ H) ∧ ∀ m σ H, W m σ H →
  c σ H fun b H1 => if b = true then ∃ N : St → Hp → Prop, (∀ σ' H', N σ' H' → ∃ m', m' < m ∧ W m' σ' H') ∧ tb { D with nx := N, ct := N, bk := D.nx } σ H1 else D.nx σ H1
theorem ps_while {c : Expr} {body : List Stmt} {tc : TT} {tb : TS} (hp : PassesOwn (model X.prog X.w) X.A X.env X.xe) (hc : PT X c tc) (hb : PSs X body tb) : PS X (.While c body [] pos) (tWhile tc tb) := by
  constructor
  intro pins s σ H D I h
  obtain ⟨W, ⟨m0, w0⟩, turn⟩ := h
  refine wpAny_While (codeAny_whileLoop (fun n s' => ∃ σ' H', Inv X pins σ' H' s' ∧ W n σ' H') ?_ m0 ⟨σ, H, I, w0⟩)
  rintro n s1 ⟨σ1, H1, I1, w1⟩
  refine wpAny_passesOwn hp (thn (hc pins s1 σ1 H1 _ I1 (turn n σ1 H1 w1)) fun b s2 ⟨H2, I2, q2⟩ => ?_)
  cases b with
  | true =>
    obtain ⟨N, hN, q2⟩ := q2
    rw [if_pos rfl]
    refine wpAny_passesOwn hp (thn (hb pins s2 σ1 H2 _ I2 q2) fun f s3 q3 => ?_)
    cases f with
    | next =>
      obtain ⟨σ3, H3, I3, n3⟩ := q3
      obtain ⟨m', hm, w3⟩ := hN σ3 H3 n3
      exact ⟨m', hm, σ3, H3, I3, w3⟩
    | cont =>
      obtain ⟨σ3, H3, I3, n3⟩ := q3
      obtain ⟨m', hm, w3⟩ := hN σ3 H3 n3
      exact ⟨m', hm, σ3, H3, I3, w3⟩
    | brk => exact q3
    | ret v => exact q3
  | false =>
    rw [if_neg Bool.false_ne_true]
    exact wpAny_execs_nil ⟨σ1, H2, I2, q2⟩
end
structure It where
  go : Nat → Hp → Prop
  yld : Nat → Hp → V → Hp → Prop
  stop : Nat → Hp → Prop
def FpOk (X : Cx) (pins : List (Addr × Obj)) (H : Hp) (b : Addr) : Prop :=
  H b = none ∧ b ≠ X.env.locals ∧ b ∉ X.fs ∧ (b ∈ X.ex ∨ X.s₀.heap.objs.size ≤ b) ∧ (∀ x c, X.env.cells.lookup x = some c → c ≠ b) ∧ ∀ p ∈ X.pn ++ pins, p.1 ≠ b
theorem Inv.fpOk {X : Cx} {pins : List (Addr × Obj)} {σ : St} {H H' : Hp} {s : Shared} {b : Addr} (I : Inv X pins σ H s) (hb : s.heap.objs.size ≤ b) (hn : H' b = none) : FpOk X pins H' b := by
  refine ⟨hn, Nat.ne_of_gt (Nat.lt_of_lt_of_le I.lt hb), I.nofs hb, .inr (Nat.le_trans I.sz hb), fun x c e z => ?_, fun p hp z => ?_⟩
  · obtain ⟨v, q⟩ := I.cell x c e
    exact absurd (Nat.lt_of_lt_of_le q.lt (by rw [z]; exact hb)) (Nat.lt_irrefl _)
  · exact absurd (Nat.lt_of_lt_of_le (Heap.lt_size (I.pin p hp).1) (by rw [z]; exact hb)) (Nat.lt_irrefl _)
structure Turn (P : Program) (w : World) (K : PySem.W.Frag) (hd : Option Value) (tg : Expr) (J : It) (fp : List Addr) (it : Addr) (tn : Nat → Heap → Prop) : Prop where
  mem : it ∈ fp
  obj : ∀ i h, tn i h → ∀ b ∈ fp, ∃ o, h.get? b = some o ∧ ∀ v, o.data ≠ .cell v
  keep : ∀ i h h', tn i h → (∀ b ∈ fp, ∀ o, h.get? b = some o → h'.get? b = some o) → tn i h'
  item : ∀ (X : Cx), X.prog = P → X.w = w → X.K = K → X.A.handled = hd → ∀ (i : Nat) (pins : List (Addr × Obj)) (s : Shared) (σ : St) (H : Hp) (E : Value → Shared → Prop), Inv X pins σ H s → (∀ b ∈ fp, FpOk X pins H b) → tn i s.heap → J.go i H →
    wpAny (model P w) X.A (pyNext (.ref it)) (fun r s1 => ∃ u, r = some u ∧
      wpAny (model P w) X.A (letOwnedTupleGo tg (.ref it) u) (fun _ s2 => ∃ x H', Inv X pins σ H' s2 ∧ RelV x u ∧ J.yld i H x H' ∧ tn (i + 1) s2.heap ∧ ∀ b ∈ fp, H' b = none) E s1) E s
  done : ∀ (X : Cx), X.prog = P → X.w = w → X.K = K → X.A.handled = hd → ∀ (i : Nat) (pins : List (Addr × Obj)) (s : Shared) (σ : St) (H : Hp) (E : Value → Shared → Prop), Inv X pins σ H s → (∀ b ∈ fp, FpOk X pins H b) → tn i s.heap → J.stop i H →
    wpAny (model P w) X.A (pyNext (.ref it)) (fun r s1 => r = none ∧ Inv X pins σ H s1) E s
  self : ∀ (A : Around) (i : Nat) (s : Shared) (Q : Value → Shared → Prop) (E : Value → Shared → Prop), tn i s.heap → Q (.ref it) s → wpAny (model P w) A (pyIter (.ref it)) Q E s
abbrev TI := St → Hp → (It → Hp → Prop) → Prop
def PIE (X : Cx) (pins : List (Addr × Obj)) (σ : St) (tg : Expr) (R : It → Hp → Prop) (itv : Value) (s2 : Shared) : Prop :=
  ∃ (it : Addr) (fp : List Addr) (tn : Nat → Heap → Prop) (J : It) (H' : Hp), itv = .ref it ∧ Inv X pins σ H' s2 ∧ Turn X.prog X.w X.K X.A.handled tg J fp it tn ∧ tn 0 s2.heap ∧ (∀ b ∈ fp, FpOk X pins H' b) ∧ R J H'
structure PI (X : Cx) (tg iter : Expr) (wi : TI) : Prop where
  run : ∀ (pins : List (Addr × Obj)) (s : Shared) (σ : St) (H : Hp) (R : It → Hp → Prop), Inv X pins σ H s → wi σ H R →
    wpAny (model X.prog X.w) X.A (eval iter X.env) (fun v s1 => wpAny (model X.prog X.w) X.A (pyIter v) (PIE X pins σ tg R) X.xe s1) X.xe s
instance {X : Cx} {tg iter : Expr} {wi : TI} : CoeFun (PI X tg iter wi) (fun _ => ∀ (pins : List (Addr × Obj)) (s : Shared) (σ : St) (H : Hp) (R : It → Hp → Prop), Inv X pins σ H s → wi σ H R →
    wpAny (model X.prog X.w) X.A (eval iter X.env) (fun v s1 => wpAny (model X.prog X.w) X.A (pyIter v) (PIE X pins σ tg R) X.xe s1) X.xe s) := ⟨fun h => h.run⟩
theorem go_of {M : Model} {A : Around} {E : Value → Shared → Prop} {s : Shared} {tg : Expr} {it : Addr} {u : Value} {o : Obj} {n : String} {vs : Array Value} {Q : Unit → Shared → Prop} (ho : s.heap.get? it = some o) (hc : o.cls = .type n) (hd : o.data = .fields vs)
    (hn : ["enumerate", "zip", "dict_itemiterator", "dict_reverseitemiterator", "odict_iterator", "itertools.zip_longest", "itertools.pairwise"].contains n = false) (hQ : Q () s) : wpAny M A (letOwnedTupleGo tg (.ref it) u) Q E s := by
  unfold letOwnedTupleGo
  cases tg <;> first
    | exact wpAny_pure hQ
    | (cases u <;> first
        | exact wpAny_pure hQ
        | (refine wpAny_bind (wpAny_load ho ?_)
           rw [hc, hd]
           show wpAny M A (if (["enumerate", "zip", "dict_itemiterator", "dict_reverseitemiterator", "odict_iterator", "itertools.zip_longest", "itertools.pairwise"].contains n && vs[0]? == some (rawInt _)) = true then _ else _) Q E s
           rw [if_neg (by intro h; rw [hn, Bool.false_and] at h; cases h)]
           exact wpAny_pure hQ))
def Itl (K : PySem.W.Frag) (a : Addr) : It :=
  ⟨fun i H => ∃ xs x, SqL K H a xs ∧ xs[i]? = some x, fun i H x H' => H' = H ∧ ∀ xs, SqL K H a xs → xs[i]? = some x, fun i H => ∃ xs, SqL K H a xs ∧ xs.length ≤ i⟩
def Itt (K : PySem.W.Frag) (a : Addr) : It :=
  ⟨fun i H => ∃ xs x, SqT K H a xs ∧ xs[i]? = some x, fun i H x H' => H' = H ∧ ∀ xs, SqT K H a xs → xs[i]? = some x, fun i H => ∃ xs, SqT K H a xs ∧ xs.length ≤ i⟩
def Itr (lo : Int) (n : Nat) : It := ⟨fun i _ => i < n, fun i H x H' => H' = H ∧ x = .int (lo + i), fun i _ => n ≤ i⟩
theorem turn_list {P : Program} {w : World} {K : PySem.W.Frag} {hd : Option Value} {tg : Expr} (a it : Addr) : Turn P w K hd tg (Itl K a) [it] it (fun i h => h.IsListIter it a i) where
  mem := by simp
  obj := fun i h st b hb => by
    have e : b = it := by simpa using hb
    subst e
    obtain ⟨o, e, c, d⟩ := st
    exact ⟨o, e, fun v z => by rw [d] at z; cases z⟩
  keep := fun i h h' st k => st.at fun o e => k it (by simp) o e
  item := by
    intro X hP hw hK hA i pins s σ H E I hf st hg
    subst hP hw hK
    obtain ⟨xs, x, hq, hx⟩ := hg
    obtain ⟨its, rv, p, hz⟩ := I.list hq
    obtain ⟨u, hu, ru⟩ := rv.get hx
    obtain ⟨f0, f1, f2, f3, f4, f5⟩ := hf it (by simp)
    refine wpAny_pyNext_list_item st p.isList (x := u) (by simpa using hu) fun h' st' sb => ?_
    have I1 : Inv X pins σ H { s with heap := h' } := I.turned (t' := s.toks) (fun b o hb e => (sb.2 b hb).trans e) f0 f1 f3 f4 f5
    obtain ⟨o, e, c, d⟩ := id st'
    exact ⟨u, rfl, go_of (s := { s with heap := h' }) e c d (by decide) ⟨x, H, I1, ru, ⟨rfl, fun ys hy => by rw [I.list_inj hy hq]; exact hx⟩, st', fun b hb => (hf b hb).1⟩⟩
  done := by
    intro X hP hw hK hA i pins s σ H E I hf st hg
    subst hP hw hK
    obtain ⟨xs, hq, hx⟩ := hg
    obtain ⟨its, rv, p, hz⟩ := I.list hq
    obtain ⟨f0, f1, f2, f3, f4, f5⟩ := hf it (by simp)
    have hl := rv.length
    exact list_end I.hdAt (I.hdNe f0) st p.isList (by simp; omega) fun h' eb => ⟨rfl, I.turned (t' := s.toks) (fun b o hb e => eb b o hb e) f0 f1 f3 f4 f5⟩
  self := fun _ _ _ _ _ st h => wpAny_pyIter_listiter st h
theorem turn_range {P : Program} {w : World} {K : PySem.W.Frag} {hd : Option Value} {tg : Expr} (it : Addr) (lo : Int) (n : Nat) : Turn P w K hd tg (Itr lo n) [it] it (fun i h => IsRangeIter h it (lo + (i : Nat) * 1) ((n : Int) - (i : Nat)) 1) where
  mem := by simp
  obj := fun i h st b hb => by
    have e : b = it := by simpa using hb
    subst e
    exact ⟨_, st, fun v z => by
      have z' : Data.fields _ = Data.cell v := z
      cases z'⟩
  keep := fun i h h' st k => k it (by simp) _ st
  item := by
    intro X hP hw hK hA i pins s σ H E I hf st hg
    subst hP hw hK
    obtain ⟨f0, f1, f2, f3, f4, f5⟩ := hf it (by simp)
    refine range_next (lo := lo) hg st fun v h' tk hv st' kk => ?_
    obtain ⟨t, rfl⟩ := hv
    have I1 : Inv X pins σ H { s with heap := h', toks := tk } := I.turned (fun b o hb e => kk b o hb e) f0 f1 f3 f4 f5
    refine ⟨_, rfl, go_of (s := { s with heap := h', toks := tk }) (n := "range_iterator") st' rfl rfl (by decide) ⟨.int (lo + i), H, I1, ⟨t, ?_⟩, ⟨rfl, rfl⟩, st', fun b hb => (hf b hb).1⟩⟩
    rw [Int.mul_one]
  done := by
    intro X hP hw hK hA i pins s σ H E I hf st hg
    subst hP hw hK
    obtain ⟨f0, f1, f2, f3, f4, f5⟩ := hf it (by simp)
    exact range_end I.hdAt st (by have : n ≤ i := hg; omega) fun h' eb => ⟨rfl, I.turned (t' := s.toks) (fun b o _ e => eb b o e) f0 f1 f3 f4 f5⟩
  self := fun _ _ _ _ _ st h => wpAny_pyIter_rangeiter st h
end L2
namespace L2
open PySem PySem.Spec PyProof.Rows
section
variable {X : Cx} {tg : Expr}
def iList (K : PySem.W.Frag) (tl : TE) : TI := fun σ H R => tl σ H fun x H1 => ∃ a, x = .ref a ∧ (∃ xs, SqL K H1 a xs) ∧ R (Itl K a) H1
def iTup (K : PySem.W.Frag) (tl : TE) : TI := fun σ H R => tl σ H fun x H1 => ∃ a, x = .ref a ∧ (∃ xs, SqT K H1 a xs) ∧ R (Itt K a) H1
theorem pi_list {l : Expr} {tl : TE} (hl : PE X l tl) : PI X tg l (iList X.K tl) := by
  constructor
  intro pins s σ H R I h
  refine thn (hl pins s σ H _ I h) fun v s1 ⟨x, H1, I1, r1, q1⟩ => ?_
  obtain ⟨a, e, ⟨xs, hq⟩, q⟩ := q1
  subst e
  cases r1
  obtain ⟨its, rv, p, hz⟩ := I1.list hq
  refine wpAny_pyIter_list p.isList ?_
  refine ⟨s1.heap.objs.size, [s1.heap.objs.size], _, _, H1, rfl, I1.kept (t' := s1.toks) fun b o e => Heap.get?_push_of_some _ e, turn_list a _, ⟨_, Heap.get?_push_size _ rfl, rfl, rfl⟩, fun b hb => ?_, q⟩
  have e : b = s1.heap.objs.size := by simpa using hb
  subst e
  exact I1.fpOk (Nat.le_refl _) (I1.hok.fresh (Nat.le_refl _))
theorem range_it {pins : List (Addr × Obj)} {σ : St} {H : Hp} {s : Shared} {R : It → Hp → Prop} {E : Value → Shared → Prop} {lo hi : Int} {t u v : Tok} {tk : Nat} (I : Inv X pins σ H s) (h1 : -(2 ^ 62) ≤ lo) (h2 : lo < 2 ^ 62) (h3 : -(2 ^ 62) ≤ hi) (h4 : hi < 2 ^ 62)
    (q : R (Itr lo (hi - lo).toNat) H) : wpAny (model X.prog X.w) X.A (pyIter (.ref s.heap.objs.size)) (PIE X pins σ tg R) E { s with heap := s.heap.push { cls := .type "range", data := .fields #[.int lo t, .int hi u, .int 1 v] }, toks := tk } := by
  refine wpAny_pyIter_range (IsRange.new ..) (small_one h1 h2 h3 h4) ?_
  have I1 : Inv X pins σ H { s with heap := s.heap.push { cls := .type "range", data := .fields #[.int lo t, .int hi u, .int 1 v] }, toks := tk } := I.kept fun b o e => Heap.get?_push_of_some _ e
  refine ⟨(s.heap.push { cls := .type "range", data := .fields #[.int lo t, .int hi u, .int 1 v] }).objs.size, [(s.heap.push { cls := .type "range", data := .fields #[.int lo t, .int hi u, .int 1 v] }).objs.size], _, _, H, rfl,
    I1.kept (t' := tk) fun b o e => Heap.get?_push_of_some _ e, turn_range _ lo (hi - lo).toNat, ?_, fun b hb => ?_, q⟩
  · have e1 : lo + ((0 : Nat) : Int) * 1 = lo := by simp
    have e2 : (((hi - lo).toNat : Nat) : Int) - ((0 : Nat) : Int) = Builtin.Range.rangeSize lo hi 1 := by rw [rangeSize_one]; split <;> omega
    show IsRangeIter _ _ (lo + ((0 : Nat) : Int) * 1) ((((hi - lo).toNat : Nat) : Int) - ((0 : Nat) : Int)) 1
    rw [e1, e2]
    exact Heap.get?_push_size _ rfl
  · have e : b = (s.heap.push { cls := .type "range", data := .fields #[.int lo t, .int hi u, .int 1 v] }).objs.size := by simpa using hb
    subst e
    exact I1.fpOk (Nat.le_refl _) (I1.hok.fresh (Nat.le_refl _))
def iRng1 (ta : TA) : TI := fun σ H R => ta σ H fun vs H1 => ∃ j : Int, vs = [.int j] ∧ -(2 ^ 62) ≤ j ∧ j < 2 ^ 62 ∧ R (Itr 0 j.toNat) H1
def iRng2 (ta : TA) : TI := fun σ H R => ta σ H fun vs H1 => ∃ i j : Int, vs = [.int i, .int j] ∧ (-(2 ^ 62) ≤ i ∧ i < 2 ^ 62 ∧ -(2 ^ 62) ≤ j ∧ j < 2 ^ 62) ∧ R (Itr i (j - i).toNat) H1
theorem pi_range1 {a : Expr} {ta : TA} {p pos : Pos} (hg : Gl X "range") (hm : X.mg "range" = none) (ha : PA X [a] ta) (hs : starEach [a] X.env = [(false, eval a X.env)] := by rfl) : PI X tg (.Call (.Name "range" p) [a] [] pos) (iRng1 ta) := by
  constructor
  intro pins s σ H R I h
  refine Call_ (ld_blt I hg hm boot_range (PyProof.Rows.callWith_type1 (thn (ha pos pins s σ H _ I h) fun us s1 ⟨vs, H1, I1, r1, q1⟩ => ?_) hs rfl))
  obtain ⟨j, e, q1, q2, q⟩ := q1
  subst e
  cases r1 with
  | cons r rr =>
    cases rr
    obtain ⟨t, rfl⟩ := r
    exact call_range_1 (range_it I1 (by omega) (by omega) q1 q2 (by simpa using q))
theorem pi_range2 {a b : Expr} {ta : TA} {p pos : Pos} (hg : Gl X "range") (hm : X.mg "range" = none) (ha : PA X [a, b] ta) (hs : starEach [a, b] X.env = [(false, eval a X.env), (false, eval b X.env)] := by rfl) (hs2 : starEach [b] X.env = [(false, eval b X.env)] := by rfl) :
    PI X tg (.Call (.Name "range" p) [a, b] [] pos) (iRng2 ta) := by
  constructor
  intro pins s σ H R I h
  refine Call_ (ld_blt I hg hm boot_range (PyProof.Rows.callWith_type1 (thn (ha pos pins s σ H _ I h) fun us s1 ⟨vs, H1, I1, r1, q1⟩ => ?_) (by rw [hs, hs2]) (by rw [hs2]; rfl)))
  obtain ⟨i, j, e, ⟨q1, q2, q3, q4⟩, q⟩ := q1
  subst e
  cases r1 with
  | cons r rr =>
    cases rr with
    | cons r' rr =>
      cases rr
      obtain ⟨t, rfl⟩ := r
      obtain ⟨t', rfl⟩ := r'
      exact call_range_2 (range_it I1 q1 q2 q3 q4 q)
def tFor (wi : TI) (g : TG) (tb : TS) : TS := fun D σ H => wi σ H fun J H1 => ∃ W : Nat → Nat → St → Hp → Prop, (∃ m, W 0 m σ H1) ∧ ∀ i m σ H, W i m σ H →
  (J.stop i H ∧ D.nx σ H) ∨ (J.go i H ∧ ∃ N : St → Hp → Prop, (∀ σ' H', N σ' H' → ∃ m', m' < m ∧ W (i + 1) m' σ' H') ∧ ∀ x H', J.yld i H x H' → g x σ H' fun σ2 H2 => tb { D with nx := N, ct := N, bk := D.nx } σ2 H2)
def pinsAt (fp : List Addr) (h : Heap) : List (Addr × Obj) := fp.filterMap fun b => (h.get? b).map fun o => (b, o)
theorem mem_pinsAt {fp : List Addr} {h : Heap} {b : Addr} {o : Obj} (hb : b ∈ fp) (e : h.get? b = some o) : (b, o) ∈ pinsAt fp h := List.mem_filterMap.mpr ⟨b, hb, by rw [e]; rfl⟩
theorem of_pinsAt {fp : List Addr} {h : Heap} {p : Addr × Obj} (hp : p ∈ pinsAt fp h) : p.1 ∈ fp ∧ h.get? p.1 = some p.2 := by
  obtain ⟨b, hb, e⟩ := List.mem_filterMap.mp hp
  cases q : h.get? b with
  | none => rw [q] at e; cases e
  | some o =>
    rw [q] at e
    have e' : (b, o) = p := Option.some.inj e
    subst e'
    exact ⟨hb, q⟩
theorem Inv.pinned {pins : List (Addr × Obj)} {σ : St} {H : Hp} {s : Shared} {fp : List Addr} (I : Inv X pins σ H s) (hf : ∀ b ∈ fp, FpOk X pins H b) (ho : ∀ b ∈ fp, ∃ o, s.heap.get? b = some o ∧ ∀ v, o.data ≠ .cell v) : Inv X (pins ++ pinsAt fp s.heap) σ H s :=
  I.pins_of fun p hp => (List.mem_append.mp hp).elim (fun z => I.pin p (List.mem_append_right _ z)) fun z => by
    obtain ⟨hb, e⟩ := of_pinsAt z
    obtain ⟨f0, f1, f2, _⟩ := hf p.1 hb
    obtain ⟨o, e', d⟩ := ho p.1 hb
    rw [e] at e'; cases e'
    exact ⟨e, f0, f1, f2, d⟩
theorem Inv.unpinned {pins pl : List (Addr × Obj)} {σ : St} {H : Hp} {s : Shared} (I : Inv X (pins ++ pl) σ H s) : Inv X pins σ H s := I.pins_of fun p hp => I.pin p (List.mem_append_right _ (List.mem_append_left _ hp))
theorem ps_for {iter : Expr} {body : List Stmt} {wi : TI} {g : TG} {tb : TS} {pos : Pos} (hp : PassesOwn (model X.prog X.w) X.A X.env X.xe) (hi : PI X tg iter wi) (hg : PG X tg g) (hb : PSs X body tb)
    (hs : ∀ x, foldedSetIterable iter X.env x = pure x := by intro _; rfl) : PS X (.For tg iter body [] pos) (tFor wi g tb) := by
  constructor
  intro pins s σ H D I h
  refine wpAny_For (thn (hi pins s σ H _ I h) fun v s1 h1 => thn h1 fun itv s2 h2 => ?_) hs
  obtain ⟨it, fp, tn, J, H2, e, I2, T, st2, f2, W, ⟨m0, w0⟩, turn⟩ := h2
  subst e
  have stat : ∀ {H' : Hp}, (∀ b ∈ fp, H' b = none) → ∀ b ∈ fp, FpOk X pins H' b := fun hn b hb => ⟨hn b hb, (f2 b hb).2⟩
  refine codeAny_forLoop_any (fun n s' => ∃ i σ' H', Inv X pins σ' H' s' ∧ tn i s'.heap ∧ (∀ b ∈ fp, H' b = none) ∧ W i n σ' H') ?_ m0 ⟨0, σ, H2, I2, st2, fun b hb => (f2 b hb).1, w0⟩
  rintro n s3 ⟨i, σ3, H3, I3, st3, fr3, w3⟩
  rcases turn i n σ3 H3 w3 with ⟨stop, qn⟩ | ⟨go, N, hN, step⟩
  · refine wpAny_passesOwn hp (thn (T.done X rfl rfl rfl rfl i pins s3 σ3 H3 X.xe I3 (stat fr3) st3 stop) fun r s4 ⟨hr, I4⟩ => ?_)
    subst hr
    exact wpAny_execs_nil ⟨σ3, H3, I4, qn⟩
  · refine wpAny_passesOwn hp (thn (T.item X rfl rfl rfl rfl i pins s3 σ3 H3 X.xe I3 (stat fr3) st3 go) fun r s4 ⟨u, hr, h4⟩ => ?_)
    subst hr
    refine wpAny_passesOwn hp (thn h4 fun _ s5 ⟨x, H5, I5, r5, y5, st5, fr5⟩ => ?_)
    have I5' := I5.pinned (stat fr5) (T.obj _ _ st5)
    refine wpAny_passesOwn hp (thn (hg _ s5 σ3 H5 x u _ I5' r5 (step x H5 y5)) fun _ s6 ⟨σ6, H6, I6, q6⟩ => ?_)
    refine wpAny_passesOwn hp (thn (hb _ s6 σ6 H6 _ I6 q6) fun f s7 q7 => ?_)
    have again : ∀ {σ7 : St} {H7 : Hp}, Inv X (pins ++ pinsAt fp s5.heap) σ7 H7 s7 → N σ7 H7 → ∃ m, m < n ∧ ∃ i σ' H', Inv X pins σ' H' s7 ∧ tn i s7.heap ∧ (∀ b ∈ fp, H' b = none) ∧ W i m σ' H' := fun {σ7 H7} I7 n7 => by
      obtain ⟨m', hm, w7⟩ := hN σ7 H7 n7
      refine ⟨m', hm, i + 1, σ7, H7, I7.unpinned, T.keep _ _ _ st5 fun b hb o e => (I7.pin (b, o) (List.mem_append_right _ (List.mem_append_right _ (mem_pinsAt hb e)))).1, fun b hb => ?_, w7⟩
      obtain ⟨o, e, d⟩ := T.obj _ _ st5 b hb
      exact (I7.pin (b, o) (List.mem_append_right _ (List.mem_append_right _ (mem_pinsAt hb e)))).2.1
    cases f with
    | next => obtain ⟨σ7, H7, I7, n7⟩ := q7; exact again I7 n7
    | cont => obtain ⟨σ7, H7, I7, n7⟩ := q7; exact again I7 n7
    | brk => obtain ⟨σ7, H7, I7, q7⟩ := q7; exact ⟨σ7, H7, I7.unpinned, q7⟩
    | ret v => obtain ⟨x7, σ7, H7, I7, r7, q7⟩ := q7; exact ⟨x7, σ7, H7, I7.unpinned, r7, q7⟩
end
theorem for_range {lo : Int} {n : Nat} {g : TG} {tb : TS} {D : Ends} {σ : St} {H : Hp} (Pv : Nat → St → Hp → Prop) (h0 : Pv 0 σ H)
    (hs : ∀ i σ H, i < n → Pv i σ H → g (.int (lo + i)) σ H fun σ2 H2 => tb { D with nx := Pv (i + 1), ct := Pv (i + 1), bk := D.nx } σ2 H2) (hd : ∀ σ H, Pv n σ H → D.nx σ H) :
    ∃ W : Nat → Nat → St → Hp → Prop, (∃ m, W 0 m σ H) ∧ ∀ i m σ H, W i m σ H →
      ((Itr lo n).stop i H ∧ D.nx σ H) ∨ ((Itr lo n).go i H ∧ ∃ N : St → Hp → Prop, (∀ σ' H', N σ' H' → ∃ m', m' < m ∧ W (i + 1) m' σ' H') ∧ ∀ x H', (Itr lo n).yld i H x H' → g x σ H' fun σ2 H2 => tb { D with nx := N, ct := N, bk := D.nx } σ2 H2) := by
  refine ⟨fun i m σ H => m = n - i ∧ i ≤ n ∧ Pv i σ H, ⟨n, by simp, Nat.zero_le _, h0⟩, ?_⟩
  rintro i m σ H ⟨rfl, hi, p⟩
  by_cases hlt : i < n
  · refine .inr ⟨hlt, Pv (i + 1), fun σ' H' p' => ⟨n - (i + 1), by omega, rfl, hlt, p'⟩, fun x H' y => ?_⟩
    obtain ⟨e, y⟩ := y
    subst e y
    exact hs i σ _ hlt p
  · have e : i = n := by omega
    subst e
    exact .inl ⟨Nat.le_refl _, hd σ H p⟩
end L2
namespace L2
open PySem PySem.Spec PyProof.Rows
abbrev R2 := V → V → Hp → VK → Prop
def OpR (X : Cx) (f : Value → Value → Sem Value) (r : R2) : Prop :=
  ∀ (pins : List (Addr × Obj)) (s : Shared) (σ : St) (H : Hp) (x y : V) (v u : Value) (Q : VK), Inv X pins σ H s → RelV x v → RelV y u → r x y H Q →
    wpAny (model X.prog X.w) X.A (f v u) (EP X pins σ Q) X.xe s
def UnR (X : Cx) (f : Value → Sem Value) (r : V → Hp → VK → Prop) : Prop :=
  ∀ (pins : List (Addr × Obj)) (s : Shared) (σ : St) (H : Hp) (x : V) (v : Value) (Q : VK), Inv X pins σ H s → RelV x v → r x H Q →
    wpAny (model X.prog X.w) X.A (f v) (EP X pins σ Q) X.xe s
def CallR (X : Cx) (f : Value) (r : List V → Hp → VK → Prop) : Prop :=
  ∀ (pins : List (Addr × Obj)) (s : Shared) (σ : St) (H : Hp) (xs : List V) (us : List Value) (Q : VK), Inv X pins σ H s → Vals xs us → r xs H Q →
    wpAny (model X.prog X.w) X.A (call f us) (EP X pins σ Q) X.xe s
def TruR (X : Cx) (r : V → Hp → (Bool → Hp → Prop) → Prop) : Prop :=
  ∀ (pins : List (Addr × Obj)) (s : Shared) (σ : St) (H : Hp) (x : V) (v : Value) (Q : Bool → Hp → Prop), Inv X pins σ H s → RelV x v → r x H Q →
    wpAny (model X.prog X.w) X.A (truthy v) (TP X pins σ Q) X.xe s
def tOp (r : R2) (ta tb : TE) : TE := fun σ H Q => ta σ H fun x H1 => tb σ H1 fun y H2 => r x y H2 Q
def tUn (r : V → Hp → VK → Prop) (ta : TE) : TE := fun σ H Q => ta σ H fun x H1 => r x H1 Q
def rI (C : Int → Int → Prop) (g : Int → Int → V) : R2 := fun x y H Q => ∃ i j, x = .int i ∧ y = .int j ∧ C i j ∧ Q (g i j) H
def rI0 (g : Int → Int → V) : R2 := fun x y H Q => ∃ i j, x = .int i ∧ y = .int j ∧ Q (g i j) H
def rU (g : Int → V) : V → Hp → VK → Prop := fun x H Q => ∃ i, x = .int i ∧ Q (g i) H
section
variable {X : Cx} {a b c : Expr} {ta tb tc : TE} {pos : Pos}
theorem binT (ha : PE X a ta) (hb : PE X b tb) {pins : List (Addr × Obj)} {s : Shared} {σ : St} {H : Hp} {R : V → V → Hp → Prop} (I : Inv X pins σ H s)
    (h : ta σ H fun x H1 => tb σ H1 fun y H2 => R x y H2) {Q : Value → Shared → Prop} {f : Value → Value → Sem Value}
    (hf : ∀ v u s2 x y H2, Inv X pins σ H2 s2 → RelV x v → RelV y u → R x y H2 → wpAny (model X.prog X.w) X.A (f v u) Q X.xe s2) :
    wpAny (model X.prog X.w) X.A (eval a X.env) (fun v s₁ => wpAny (model X.prog X.w) X.A (eval b X.env) (fun u s₂ => wpAny (model X.prog X.w) X.A (f v u) Q X.xe s₂) X.xe s₁) X.xe s := by
  refine thn (ha pins s σ H _ I h) fun v s1 ⟨x, H1, I1, r1, q1⟩ => ?_
  refine thn (hb pins s1 σ H1 _ I1 q1) fun u s2 ⟨y, H2, I2, r2, q2⟩ => ?_
  exact hf v u s2 x y H2 I2 r1 r2 q2
theorem pe_op {op : Operator} {r : R2} (ho : OpR X (binaryOp op) r) (ha : PE X a ta) (hb : PE X b tb) : PE X (.BinOp a op b pos) (tOp r ta tb) := by
  constructor
  intro pins s σ H Q I h
  exact wpAny_BinOp (binT ha hb I h fun v u s2 x y H2 I2 rx ry q => ho pins s2 σ H2 x y v u Q I2 rx ry q)
theorem pe_un {op : UnaryOp} {r : V → Hp → VK → Prop} (ho : UnR X (unaryOp op) r) (ha : PE X a ta) : PE X (.UnaryOp op a pos) (tUn r ta) := by
  constructor
  intro pins s σ H Q I h
  exact UnaryOp_ (thn (ha pins s σ H _ I h) fun v s1 ⟨x, H1, I1, r1, q1⟩ => ho pins s1 σ H1 x v Q I1 r1 q1)
theorem opI {f : Value → Value → Sem Value} {C : Int → Int → Prop} {g : Int → Int → Int}
    (rule : ∀ (i j : Int) (t u : Tok) (s : Shared) (Q : Value → Shared → Prop) (E : Value → Shared → Prop), C i j → Q (.int (g i j) s.toks) { s with toks := s.toks + 1 } → wpAny (model X.prog X.w) X.A (f (.int i t) (.int j u)) Q E s) :
    OpR X f (rI C fun i j => .int (g i j)) := by
  intro pins s σ H x y v u Q I rx ry h
  obtain ⟨i, j, rfl, rfl, hc, q⟩ := h
  obtain ⟨t, rfl⟩ := rx
  obtain ⟨t', rfl⟩ := ry
  exact rule i j t t' s _ _ hc ⟨.int (g i j), H, I.tok _, ⟨_, rfl⟩, q⟩
theorem opI0 {f : Value → Value → Sem Value} {g : Int → Int → Int}
    (rule : ∀ (i j : Int) (t u : Tok) (s : Shared) (Q : Value → Shared → Prop) (E : Value → Shared → Prop), Q (.int (g i j) s.toks) { s with toks := s.toks + 1 } → wpAny (model X.prog X.w) X.A (f (.int i t) (.int j u)) Q E s) :
    OpR X f (rI0 fun i j => .int (g i j)) := by
  intro pins s σ H x y v u Q I rx ry h
  obtain ⟨i, j, rfl, rfl, q⟩ := h
  obtain ⟨t, rfl⟩ := rx
  obtain ⟨t', rfl⟩ := ry
  exact rule i j t t' s _ _ ⟨.int (g i j), H, I.tok _, ⟨_, rfl⟩, q⟩
theorem opB0 {f : Value → Value → Sem Value} {g : Int → Int → Bool}
    (rule : ∀ (i j : Int) (t u : Tok) (s : Shared) (Q : Value → Shared → Prop) (E : Value → Shared → Prop), Q (.bool (g i j)) s → wpAny (model X.prog X.w) X.A (f (.int i t) (.int j u)) Q E s) :
    OpR X f (rI0 fun i j => .bl (g i j)) := by
  intro pins s σ H x y v u Q I rx ry h
  obtain ⟨i, j, rfl, rfl, q⟩ := h
  obtain ⟨t, rfl⟩ := rx
  obtain ⟨t', rfl⟩ := ry
  exact rule i j t t' s _ _ ⟨.bl (g i j), H, I, rfl, q⟩
def CDiv (i j : Int) : Prop := 0 < j ∧ j < 1073741824
def CDivN (i j : Int) : Prop := j ≠ 0 ∧ j.natAbs < 1073741824
def CPow (i j : Int) : Prop := 0 ≤ j ∧ j ≤ 1000000 ∧ i.natAbs < 2 ^ 64
def CMul (i j : Int) : Prop := (-(2 ^ 64) < i ∧ i < 2 ^ 64) ∨ (-(2 ^ 64) < j ∧ j < 2 ^ 64)
theorem CMul.ok {i j : Int} (h : CMul i j) : IntMulOk i j := by
  rcases h with ⟨h1, h2⟩ | ⟨h1, h2⟩
  · exact .of_left (intBits_le_64 h1 h2)
  · exact .of_right (intBits_le_64 h1 h2)
theorem op_add : OpR X (binaryOp .Add) (rI0 fun i j => .int (i + j)) := opI0 fun _ _ _ _ _ _ _ q => add_int q
theorem op_sub : OpR X (binaryOp .Sub) (rI0 fun i j => .int (i - j)) := opI0 fun _ _ _ _ _ _ _ q => sub_int q
theorem op_mod : OpR X (binaryOp .Mod) (rI (fun _ j => 0 < j) fun i j => .int (i % j)) := opI fun i j _ _ _ _ _ hc q => by
  have h1 : (0 : Int) < j := hc
  exact mod_int' (by omega) (by rw [Int.fmod_eq_emod_of_nonneg i (by omega)]; exact q)
theorem op_pow : OpR X (binaryOp .Pow) (rI CPow fun i j => .int (i ^ j.toNat)) := opI fun _ _ _ _ _ _ _ hc q => pow_int_small hc.1 hc.2.1 hc.2.2 q
theorem unI {f : Value → Sem Value} {g : Int → Int}
    (rule : ∀ (i : Int) (t : Tok) (s : Shared) (Q : Value → Shared → Prop) (E : Value → Shared → Prop), Q (.int (g i) s.toks) { s with toks := s.toks + 1 } → wpAny (model X.prog X.w) X.A (f (.int i t)) Q E s) :
    UnR X f (rU fun i => .int (g i)) := by
  intro pins s σ H x v Q I rx h
  obtain ⟨i, rfl, q⟩ := h
  obtain ⟨t, rfl⟩ := rx
  exact rule i t s _ _ ⟨.int (g i), H, I.tok _, ⟨_, rfl⟩, q⟩
theorem un_neg : UnR X (unaryOp .USub) (rU fun i => .int (-i)) := unI fun _ _ _ _ _ q => neg_int q
end
def scal : V → V → Bool
  | .non, .non => true | .non, .int _ => true | .int _, .non => true | .non, .bl _ => true | .bl _, .non => true | .non, .str _ => true | .str _, .non => true
  | .int _, .int _ => true | .bl _, .bl _ => true | .str _, .str _ => true | .byt _, .byt _ => true
  | .int _, .str _ => true | .str _, .int _ => true | .bl _, .str _ => true | .str _, .bl _ => true
  | _, _ => false
def rEq : R2 := fun x y H Q => scal x y = true ∧ Q (.bl (decide (x = y))) H
def rNe : R2 := fun x y H Q => scal x y = true ∧ Q (.bl (!decide (x = y))) H
theorem dec_int {i j : Int} : decide (V.int i = V.int j) = (i == j) := by
  rw [Bool.eq_iff_iff]
  simp
theorem dec_bl {i j : Bool} : decide (V.bl i = V.bl j) = (i == j) := by
  rw [Bool.eq_iff_iff]
  simp
theorem dec_str {i j : Str} : decide (V.str i = V.str j) = (i == j) := by
  rw [Bool.eq_iff_iff]
  simp
theorem dec_byt {i j : Array UInt8} : decide (V.byt i = V.byt j) = (i.toList == j.toList) := by
  rw [Bool.eq_iff_iff]
  cases i
  cases j
  simp
section
variable {X : Cx} {a b c : Expr} {ta tb tc : TE} {pos : Pos}
theorem fin_bl {pins : List (Addr × Obj)} {σ : St} {H : Hp} {s : Shared} {Q : VK} {k k' : Bool} (I : Inv X pins σ H s) (q : Q (.bl k) H) (e : k = k') : EP X pins σ Q (.bool k') s := by
  subst e
  exact ⟨.bl k, H, I, rfl, q⟩
theorem op_eq : OpR X (compareOp .Eq) rEq := by
  intro pins s σ H x y v u Q I rx ry h
  obtain ⟨hs, q⟩ := h
  cases x with
  | non =>
    cases rx
    cases y with
    | non => cases ry; exact PySem.EqNone.eq_none_none (fin_bl I q (by simp))
    | bl j => cases ry; exact PySem.EqNone.eq_none_bool (fin_bl I q (by simp))
    | int j => obtain ⟨t', rfl⟩ := ry; exact PySem.EqNone.eq_none_int (fin_bl I q (by simp))
    | str j => obtain ⟨t', rfl⟩ := ry; exact PySem.EqNone.eq_none_str (fin_bl I q (by simp))
    | _ => exact absurd (show false = true from hs) Bool.false_ne_true
  | bl i =>
    cases rx
    cases y with
    | non => cases ry; exact PySem.EqNone.eq_bool_none (fin_bl I q (by simp))
    | bl j => cases ry; exact eq_bool (fin_bl I q dec_bl)
    | str j => obtain ⟨t', rfl⟩ := ry; exact PySem.EqMixed.eq_bool_str (fin_bl I q (by simp))
    | _ => exact absurd (show false = true from hs) Bool.false_ne_true
  | int i =>
    obtain ⟨t, rfl⟩ := rx
    cases y with
    | non => cases ry; exact PySem.EqNone.eq_int_none (fin_bl I q (by simp))
    | int j => obtain ⟨t', rfl⟩ := ry; exact eq_int (fin_bl I q dec_int)
    | str j => obtain ⟨t', rfl⟩ := ry; exact PySem.EqMixed.eq_int_str (fin_bl I q (by simp))
    | _ => exact absurd (show false = true from hs) Bool.false_ne_true
  | str i =>
    obtain ⟨t, rfl⟩ := rx
    cases y with
    | non => cases ry; exact PySem.EqNone.eq_str_none (fin_bl I q (by simp))
    | bl j => cases ry; exact PySem.EqMixed.eq_str_bool (fin_bl I q (by simp))
    | int j => obtain ⟨t', rfl⟩ := ry; exact PySem.EqMixed.eq_str_int (fin_bl I q (by simp))
    | str j => obtain ⟨t', rfl⟩ := ry; exact eq_str (fin_bl I q dec_str)
    | _ => exact absurd (show false = true from hs) Bool.false_ne_true
  | byt i =>
    obtain ⟨t, rfl⟩ := rx
    cases y with
    | byt j => obtain ⟨t', rfl⟩ := ry; exact PySem.W.eq_bytes (fin_bl I q dec_byt)
    | _ => exact absurd (show false = true from hs) Bool.false_ne_true
  | _ => cases y <;> exact absurd (show false = true from hs) Bool.false_ne_true
theorem op_ne : OpR X (compareOp .NotEq) rNe := by
  intro pins s σ H x y v u Q I rx ry h
  obtain ⟨hs, q⟩ := h
  cases x with
  | non =>
    cases rx
    cases y with
    | non => cases ry; exact PySem.EqNone.ne_none_none (fin_bl I q (by simp))
    | bl j => cases ry; exact PySem.EqNone.ne_none_bool (fin_bl I q (by simp))
    | int j => obtain ⟨t', rfl⟩ := ry; exact PySem.EqNone.ne_none_int (fin_bl I q (by simp))
    | str j => obtain ⟨t', rfl⟩ := ry; exact PySem.EqNone.ne_none_str (fin_bl I q (by simp))
    | _ => exact absurd (show false = true from hs) Bool.false_ne_true
  | bl i =>
    cases rx
    cases y with
    | non => cases ry; exact PySem.EqNone.ne_bool_none (fin_bl I q (by simp))
    | bl j => cases ry; exact ne_bool (fin_bl I q (congrArg not dec_bl))
    | str j => obtain ⟨t', rfl⟩ := ry; exact PySem.EqMixed.ne_bool_str (fin_bl I q (by simp))
    | _ => exact absurd (show false = true from hs) Bool.false_ne_true
  | int i =>
    obtain ⟨t, rfl⟩ := rx
    cases y with
    | non => cases ry; exact PySem.EqNone.ne_int_none (fin_bl I q (by simp))
    | int j => obtain ⟨t', rfl⟩ := ry; exact ne_int (fin_bl I q (congrArg not dec_int))
    | str j => obtain ⟨t', rfl⟩ := ry; exact PySem.EqMixed.ne_int_str (fin_bl I q (by simp))
    | _ => exact absurd (show false = true from hs) Bool.false_ne_true
  | str i =>
    obtain ⟨t, rfl⟩ := rx
    cases y with
    | non => cases ry; exact PySem.EqNone.ne_str_none (fin_bl I q (by simp))
    | bl j => cases ry; exact PySem.EqMixed.ne_str_bool (fin_bl I q (by simp))
    | int j => obtain ⟨t', rfl⟩ := ry; exact PySem.EqMixed.ne_str_int (fin_bl I q (by simp))
    | str j => obtain ⟨t', rfl⟩ := ry; exact ne_str (fin_bl I q (congrArg not dec_str))
    | _ => exact absurd (show false = true from hs) Bool.false_ne_true
  | byt i =>
    obtain ⟨t, rfl⟩ := rx
    cases y with
    | byt j => obtain ⟨t', rfl⟩ := ry; exact PySem.W.ne_bytes (fin_bl I q (congrArg not dec_byt))
    | _ => exact absurd (show false = true from hs) Bool.false_ne_true
  | _ => cases y <;> exact absurd (show false = true from hs) Bool.false_ne_true
theorem op_le : OpR X (compareOp .LtE) (rI0 fun i j => .bl (decide (i ≤ j))) := opB0 fun _ _ _ _ _ _ _ q => le_int q
theorem op_gt : OpR X (compareOp .Gt) (rI0 fun i j => .bl (decide (j < i))) := opB0 fun _ _ _ _ _ _ _ q => gt_int q
theorem op_ge : OpR X (compareOp .GtE) (rI0 fun i j => .bl (decide (j ≤ i))) := opB0 fun _ _ _ _ _ _ _ q => ge_int q
def isObj : HO → Bool
  | .lst _ => true
  | .ins _ _ _ => true
  | _ => false
theorem nomark (b : Expr) {op : CmpOp} (h : op ≠ .In := by decide) (h2 : op ≠ .NotIn := by decide) : behindInMarks op b = false := by
  have e1 : (op == CmpOp.In) = false := by cases op <;> first | rfl | exact absurd rfl h
  have e2 : (op == CmpOp.NotIn) = false := by cases op <;> first | rfl | exact absurd rfl h2
  cases b <;> simp [behindInMarks, e1, e2]
theorem pe_cmpR {op : CmpOp} {r : R2} (ho : OpR X (compareOp op) r) (ha : PE X a ta) (hb : PE X b tb) (hm : behindInMarks op b = false) : PE X (.Compare a [op] [b] pos) (tOp r ta tb) := by
  constructor
  intro pins s σ H Q I h
  exact wpAny_Compare1 (binT ha hb I h fun v u s2 x y H2 I2 rx ry q => ho pins s2 σ H2 x y v u Q I2 rx ry q) hm
def tTest (t : TE) : TT := fun σ H Q => t σ H fun x H' => ∃ k, x = .bl k ∧ Q k H'
theorem pt_cmpR {op : CmpOp} {r : R2} (ho : OpR X (compareOp op) r) (ha : PE X a ta) (hb : PE X b tb) (hm : behindInMarks op b = false) : PT X (.Compare a [op] [b] pos) (tTest (tOp r ta tb)) := by
  constructor
  intro pins s σ H Q I h
  refine wpAny_isTrue_Compare1 (thn (ha pins s σ H _ I h) fun v s1 ⟨x, H1, I1, r1, q1⟩ => thn (hb pins s1 σ H1 _ I1 q1) fun u s2 ⟨y, H2, I2, r2, q2⟩ =>
    thn (ho pins s2 σ H2 x y v u _ I2 r1 r2 q2) fun c s3 ⟨z, H3, I3, r3, k, e, q3⟩ => ?_) hm
  subst e
  cases r3
  exact wpAny_truthy_bool ⟨H3, I3, q3⟩
def tChain (r r' : R2) (ta tb tc : TE) : TE := fun σ H Q => ta σ H fun x H1 => tb σ H1 fun y H2 => r x y H2 fun z H3 => ∃ k, z = .bl k ∧
  (if k = true then tc σ H3 fun w' H4 => r' y w' H4 Q else Q (.bl false) H3)
theorem pe_chain {op op' : CmpOp} {r r' : R2} (ho : OpR X (compareOp op) r) (ho' : OpR X (compareOp op') r') (ha : PE X a ta) (hb : PE X b tb) (hc : PE X c tc)
    (hm : lastMarks [op, op'] [b, c] = false := by with_unfolding_all rfl) : PE X (.Compare a [op, op'] [b, c] pos) (tChain r r' ta tb tc) := by
  constructor
  intro pins s σ H Q I h
  refine Compare_chain (thn (ha pins s σ H _ I h) fun v s1 ⟨x, H1, I1, r1, q1⟩ => chain_link (thn (hb pins s1 σ H1 _ I1 q1) fun u s2 ⟨y, H2, I2, r2, q2⟩ =>
    thn (ho pins s2 σ H2 x y v u _ I2 r1 r2 q2) fun d s3 ⟨z, H3, I3, r3, k, e, q3⟩ => ?_)) hm
  subst e
  cases r3
  refine wpAny_truthy_bool ?_
  cases k with
  | false => exact ite_ff ⟨.bl false, H3, I3, rfl, q3⟩
  | true => exact ite_tt (chain_last (thn (hc pins s3 σ H3 _ I3 q3) fun w' s4 ⟨z', H4, I4, r4, q4⟩ => ho' pins s4 σ H4 y z' u w' Q I4 r2 r4 q4))
def TruV (K : PySem.W.Frag) (x : V) (H : Hp) (k : Bool) : Prop :=
  match x with
  | .non => k = false
  | .bl b => k = b
  | .int i => k = (i != 0)
  | .str y => y.length ≤ sizeLine ∧ k = ((y.length : Int) != 0)
  | .byt y => y.size ≤ sizeLine ∧ k = ((y.size : Int) != 0)
  | .ref p => (∃ xs, SqL K H p xs ∧ k = !xs.isEmpty) ∨ (∃ xs, SqT K H p xs ∧ k = !xs.isEmpty) ∨ ∃ kvs, H p = some (.dK kvs) ∧ k = !kvs.isEmpty
  | _ => False
theorem line63 : (sizeLine : Nat) < 2 ^ 63 := by rw [sizeLine_eq]; decide
def PlainIxT (b : Expr) : Prop := ∀ o i, subscripted b false o i = operate [o, i] (getItem o i)
theorem vals1 {x : V} {us : List Value} (r : Vals [x] us) : ∃ u, us = [u] ∧ RelV x u := by
  cases r with
  | cons r1 r2 => cases r2; exact ⟨_, rfl, r1⟩
theorem vals2 {x y : V} {us : List Value} (r : Vals [x, y] us) : ∃ u w', us = [u, w'] ∧ RelV x u ∧ RelV y w' := by
  cases r with
  | cons r1 r2 =>
    cases r2 with
    | cons r3 r4 => cases r4; exact ⟨_, _, rfl, r1, r3⟩
theorem call_max2 (hc : X.calm = true) : CallR X (.builtin "max") (fun xs H Q => ∃ i j, xs = [.int i, .int j] ∧ Q (.int (if j > i then j else i)) H) := by
  intro pins s σ H xs us Q I r h
  obtain ⟨i, j, rfl, q⟩ := h
  obtain ⟨u, w', rfl, ⟨t, rfl⟩, ⟨t', rfl⟩⟩ := vals2 r
  refine max_two_ints (I.ok.hd hc) fun h' tk k => ⟨_, H, I.kept k, ?_, q⟩
  by_cases hj : j > i
  · rw [if_pos hj, if_pos hj]; exact ⟨_, rfl⟩
  · rw [if_neg hj, if_neg hj]; exact ⟨_, rfl⟩
theorem call_min2 (hc : X.calm = true) : CallR X (.builtin "min") (fun xs H Q => ∃ i j, xs = [.int i, .int j] ∧ Q (.int (if j < i then j else i)) H) := by
  intro pins s σ H xs us Q I r h
  obtain ⟨i, j, rfl, q⟩ := h
  obtain ⟨u, w', rfl, ⟨t, rfl⟩, ⟨t', rfl⟩⟩ := vals2 r
  refine min_two_ints (I.ok.hd hc) fun h' tk k => ⟨_, H, I.kept k, ?_, q⟩
  by_cases hj : j < i
  · rw [if_pos hj, if_pos hj]; exact ⟨_, rfl⟩
  · rw [if_neg hj, if_neg hj]; exact ⟨_, rfl⟩
theorem call_int1 : CallR X (.type "int") (fun xs H Q => (∃ i, xs = [.int i] ∧ Q (.int i) H) ∨ ∃ k, xs = [.bl k] ∧ Q (.int (if k then 1 else 0)) H) := by
  intro pins s σ H xs us Q I r h
  rcases h with ⟨i, rfl, q⟩ | ⟨k, rfl, q⟩
  · obtain ⟨u, rfl, t, rfl⟩ := vals1 r
    exact call_int_int ⟨.int i, H, I, ⟨_, rfl⟩, q⟩
  · obtain ⟨u, rfl, r1⟩ := vals1 r
    cases r1
    exact call_int_bool ⟨.int (if k then 1 else 0), H, I.tok _, ⟨_, rfl⟩, q⟩
def LenV (K : PySem.W.Frag) (x : V) (H : Hp) (n : Nat) : Prop :=
  match x with
  | .str y => y.length ≤ sizeLine ∧ n = y.length
  | .byt y => y.size ≤ sizeLine ∧ n = y.size
  | .ref p => (∃ xs, SqL K H p xs ∧ n = xs.length) ∨ ∃ xs, SqT K H p xs ∧ n = xs.length
  | _ => False
end
end L2
namespace L2
open PySem PySem.Spec PyProof.Rows
structure ObjM (h : Heap) (x dx C : Addr) (mA : Str → Option Value) : Prop where
  obj : h.get? x = some (PySem.W.instObj C dx)
  ns : h.Ns1 dx mA
  ne : dx ≠ x
theorem lookIn_ns {h : Heap} {dx : Addr} {mA : Str → Option Value} (n : h.Ns1 dx mA) : ∃ od, h.get? dx = some od ∧ ∀ name, PySem.W.lookIn name od = some (mA name) := by
  obtain ⟨o, es, ep, ho, hd, hk, _, hm⟩ := n
  refine ⟨o, ho, fun name => ?_⟩
  have e := hm name
  unfold nsFind findBy at e
  rw [← Array.find?_toList] at e
  unfold PySem.W.lookIn
  rw [hd]
  dsimp only
  split
  · rename_i y q
    rw [q] at e
    exact congrArg some e
  · rename_i q
    rw [q] at e
    have a : es.toList.any (·.refKey) = false := by
      rw [List.any_eq_false]
      intro y hy
      obtain ⟨z, t, hkey⟩ := hk y (Array.mem_toList_iff.mp hy)
      simp [DictEntry.refKey, hkey]
    have a' : ¬ es.toList.any (·.refKey) = true := by rw [a]; exact Bool.false_ne_true
    rw [if_neg a']
    exact congrArg some e
theorem ObjM.look {h : Heap} {x dx C : Addr} {mA : Str → Option Value} (I : ObjM h x dx C mA) : ∃ od, PySem.W.InstAt h x (PySem.W.instObj C dx) C (some od) ∧ ∀ name, PySem.W.lookIn name od = some (mA name) :=
  let ⟨od, ho, hl⟩ := lookIn_ns I.ns
  ⟨od, ⟨I.obj, rfl, rfl, ho⟩, hl⟩
section
variable {prog : Program} {w : World} {A : Around} {E : Value → Shared → Prop} {s : Shared} {K : PySem.W.Frag} {x dx C f : Addr} {mA : Str → Option Value} {name : Str} {v : Value}
end
def putF (f : Str) (v : V) : List (Str × V) → List (Str × V)
  | [] => [(f, v)]
  | (g, x) :: r => if g = f then (g, v) :: r else (g, x) :: putF f v r
section
variable {P : Program} {w : World} {H H' : Hp} {h h' : Heap} {a C dx : Addr} {fs fs' : List (Str × V)}
theorem ins_get (hok : HOk P w H h) (e : H a = some (.ins C dx fs)) : ∃ mA, ObjM h a dx C mA ∧ (∀ f, RelO (fs.lookup f) (mA f)) ∧ PySem.Within mA (fs.map (·.1)) ∧ fs.length ≤ 1000 ∧ H dx = some (.own a) := by
  obtain ⟨d, z, ne, ob, mA, n, r, q⟩ := (show ObjOk P w H h a (.ins C dx fs) from hok a _ e)
  exact ⟨mA, ⟨ob, n, ne⟩, r, q, z, d⟩
end
structure Cls (K : PySem.W.Frag) (C : Addr) : Prop where
  pg : PySem.W.plainGet K C Str.empty = true
  hd : PySem.W.hasDictIn K C = true
  po : PySem.W.plainOver K C = true
  sa : PySem.W.findIn K (.ref C) "__setattr__" = some (some (.builtin "object.__setattr__"))
theorem Cls.get {K : PySem.W.Frag} {C : Addr} (c : Cls K C) (f : Str) : PySem.W.plainGet K C f = true := c.pg
def NoAttr (K : PySem.W.Frag) (C : Addr) (f : Str) : Prop := PySem.W.findIn K (.ref C) f = some none
structure Con (K : PySem.W.Frag) (C : Addr) (f : Str) (v : V) (u : Value) : Prop where
  at_ : PySem.W.findIn K (.ref C) f = some (some u)
  rel : RelV v u
  get : PySem.W.specialIn K u "__get__" = some none
  cp : PySem.W.copiedNames.contains f = false
structure Meth (K : PySem.W.Frag) (C : Addr) (m : Str) (f : Addr) : Prop where
  at_ : PySem.W.findIn K (.ref C) m = some (some (.ref f))
  fn : PySem.W.isFn K (.ref f) = true
  kp : PySem.W.keepIn K (.ref f) = true
section
variable {X : Cx} {pins : List (Addr × Obj)} {σ : St} {H : Hp} {s : Shared} {a C dx : Addr} {fs : List (Str × V)} {f : Str} {v : V} {A : Around} {E : Value → Shared → Prop}
end
def tFld (K : PySem.W.Frag) (ta : TE) (f : Str) : TE := fun σ H Q => ta σ H fun x H1 => ∃ a C dx fs v, x = .ref a ∧ H1 a = some (.ins C dx fs) ∧ Cls K C ∧ NoAttr K C f ∧ fs.lookup f = some v ∧ Q v H1
def tCon (K : PySem.W.Frag) (ta : TE) (f : Str) : TE := fun σ H Q => ta σ H fun x H1 => ∃ a C dx fs v u, x = .ref a ∧ H1 a = some (.ins C dx fs) ∧ Cls K C ∧ Con K C f v u ∧ fs.lookup f = none ∧ Q v H1
def sFld (K : PySem.W.Frag) (ta tv : TE) (f : Str) : TS := fun D σ H => tv σ H fun y H1 => ta σ H1 fun x H2 => ∃ a C dx fs, x = .ref a ∧ H2 a = some (.ins C dx fs) ∧ Cls K C ∧ NoAttr K C f ∧ fs.length < 1000 ∧
  D.nx σ (upd H2 a (.ins C dx (putF f y fs)))
def InOp (X : Cx) (op : Operator) (rd : V → V → Hp → VK → Prop) : Prop :=
  ∀ (pins : List (Addr × Obj)) (s : Shared) (σ : St) (H : Hp) (x y : V) (u v : Value) (Q : VK), Inv X pins σ H s → RelV x u → RelV y v → rd x y H Q → wpAny (model X.prog X.w) X.A (inplaceOp op u v) (EP X pins σ Q) X.xe s
def sFldAug (K : PySem.W.Frag) (ta tv : TE) (rd : V → V → Hp → VK → Prop) (f : Str) : TS := fun D σ H => ta σ H fun x H1 => ∃ a C dx fs v, x = .ref a ∧ H1 a = some (.ins C dx fs) ∧ Cls K C ∧ NoAttr K C f ∧ fs.lookup f = some v ∧
  tv σ H1 fun y H2 => rd v y H2 fun z H3 => ∃ dx' fs', H3 a = some (.ins C dx' fs') ∧ fs'.length < 1000 ∧ D.nx σ (upd H3 a (.ins C dx' (putF f z fs')))
section
variable {X : Cx} {o e value : Expr} {f : Str} {pos pos' tpos : Pos} {ta tv : TE}
def rAdd : V → V → Hp → VK → Prop := fun x y H Q => ∃ i j, x = .int i ∧ y = .int j ∧ Q (.int (i + j)) H
def rSub : V → V → Hp → VK → Prop := fun x y H Q => ∃ i j, x = .int i ∧ y = .int j ∧ Q (.int (i - j)) H
end
section
variable {X : Cx} {pins : List (Addr × Obj)} {σ : St} {H : Hp} {s : Shared} {A : Around} {E : Value → Shared → Prop} {Q : Value → Shared → Prop} {c : Value} {b : Bool}
inductive TyOf (K : PySem.W.Frag) (H : Hp) : V → Value → Prop where
  | non : TyOf K H .non (.type "NoneType")
  | bl (x : Bool) : TyOf K H (.bl x) (.type "bool")
  | int (i : Int) : TyOf K H (.int i) (.type "int")
  | str (x : Str) : TyOf K H (.str x) (.type "str")
  | flt (x : UInt64) : TyOf K H (.flt x) (.type "float")
  | lst {a : Addr} {xs : List V} (e : H a = some (.lst xs)) : TyOf K H (.ref a) (.type "list")
  | frz {a : Addr} {o : Obj} {xs : List V} (e : H a = some (.frz o (.lst xs))) : TyOf K H (.ref a) (.type "list")
  | tup {a : Addr} {xs : List V} (e : H a = some (.tup xs)) : TyOf K H (.ref a) (.type "tuple")
  | dK {a : Addr} {kvs : List (Key × V)} (e : H a = some (.dK kvs)) : TyOf K H (.ref a) (.type "dict")
  | dT {a : Addr} {kvs : List (List Key × V)} (e : H a = some (.dT kvs)) : TyOf K H (.ref a) (.type "dict")
  | ins {a C dx : Addr} {fs : List (Str × V)} (e : H a = some (.ins C dx fs)) (cl : Cls K C) (ha : PySem.W.findIn K (.ref C) "__class__" = some (some (.builtin "object.__class__")))
      (hn : PySem.W.specialIn K (.builtin "object.__class__") "__get__" = some (some (.builtin "getset_descriptor.__get__"))) (htk : PySem.W.takesIn K (.builtin "object.__class__") = some true)
      (hm : PySem.W.mroIn K C (.type "object") = some true) : TyOf K H (.ref a) (.ref C)
theorem isinst_ok {x : V} {u t : Value} (I : Inv X pins σ H s) (rx : RelV x u) (ty : TyOf X.K H x t) (e : PySem.W.kitOne X.K t c = some b) (h : ∀ tk, Q (.bool b) { s with toks := tk }) :
    wpAny (model X.prog X.w) A (call (.builtin "isinstance") [u, c]) Q E s := by
  cases ty with
  | non => cases (show u = Value.none from rx); exact PySem.W.kia_one PySem.W.kitx_none I.kIn True.intro e (fun z => nomatch z) h
  | bl y => cases (show u = Value.bool y from rx); exact PySem.W.kia_one PySem.W.kitx_bool I.kIn True.intro e (fun z => nomatch z) h
  | int i => obtain ⟨t, q⟩ := (show ∃ t, u = Value.int i t from rx); cases q; exact PySem.W.kia_one PySem.W.kitx_int I.kIn True.intro e (fun z => nomatch z) h
  | str y => obtain ⟨t, q⟩ := (show ∃ t, u = Value.str y t from rx); cases q; exact PySem.W.kia_one PySem.W.kitx_str I.kIn True.intro e (fun z => nomatch z) h
  | flt y => obtain ⟨t, q⟩ := (show ∃ t, u = Value.float y t from rx); cases q; exact PySem.W.kia_one PySem.W.kitx_float I.kIn True.intro e (fun z => nomatch z) h
  | @lst a xs ea =>
    cases (show u = Value.ref a from rx)
    obtain ⟨_, _, n, _, h1⟩ := (show ObjOk X.prog X.w H s.heap a (.lst xs) from I.hok a _ ea)
    exact PySem.W.kia_one PySem.W.kitx_list I.kIn ⟨_, h1, rfl⟩ e (fun z => nomatch z) h
  | @frz a ob xs ea =>
    cases (show u = Value.ref a from rx)
    obtain ⟨_, _, _, n, _, h1⟩ := (show ObjOk X.prog X.w H s.heap a (.frz ob (.lst xs)) from I.hok a _ ea)
    exact PySem.W.kia_one PySem.W.kitx_list I.kIn ⟨_, h1, rfl⟩ e (fun z => nomatch z) h
  | @tup a xs ea =>
    cases (show u = Value.ref a from rx)
    obtain ⟨_, _, _, p⟩ := (show ObjOk X.prog X.w H s.heap a (.tup xs) from I.hok a _ ea)
    obtain ⟨o, h1, h2, _⟩ := p
    exact PySem.W.kia_one PySem.W.kitx_tuple I.kIn ⟨o, h1, h2⟩ e (fun z => nomatch z) h
  | @dK a kvs ea =>
    cases (show u = Value.ref a from rx)
    obtain ⟨_, _, vs, _, p⟩ := (show ObjOk X.prog X.w H s.heap a (.dK kvs) from I.hok a _ ea)
    obtain ⟨o, es, ep, h1, h2, _⟩ := p
    exact PySem.W.kia_one PySem.W.kitx_dict I.kIn ⟨o, h1, h2.1⟩ e (fun z => nomatch z) h
  | @dT a kvs ea =>
    cases (show u = Value.ref a from rx)
    obtain ⟨_, _, xs, _, o, es, ep, h1, h2, _⟩ := (show ObjOk X.prog X.w H s.heap a (.dT kvs) from I.hok a _ ea)
    exact PySem.W.kia_one PySem.W.kitx_dict I.kIn ⟨o, h1, h2.1⟩ e (fun z => nomatch z) h
  | @ins a C dx fs ea cl ha hn htk hm =>
    cases (show u = Value.ref a from rx)
    obtain ⟨mA, O, _⟩ := ins_get I.hok ea
    obtain ⟨od, J, _⟩ := O.look
    exact PySem.W.kia_one (PySem.W.kitx_own (cl.get _) cl.hd ha hn htk hm) I.kIn J e (fun z => nomatch z) h
end
end L2
namespace L2
open PySem PySem.Spec PyProof.Rows
structure Room (k : Nat) (A : Around) : Prop where
  dp : A.depth + 3 * k + 5 < recursionLimit
  un : A.units + 16 * k + 200 < cLine
theorem Room.mono {j k : Nat} {A : Around} (r : Room k A) (h : j ≤ k) : Room j A := ⟨by have := r.dp; omega, by have := r.un; omega⟩
theorem Room.deeper {k : Nat} {A : Around} (r : Room (k + 1) A) (env : Env) : Room k (A.deeper env) :=
  ⟨by have := r.dp; show A.depth + 1 + 3 * k + 5 < _; omega, by have := r.un; show A.units + 3 + 16 * k + 200 < _; omega⟩
theorem Room.in1 {k : Nat} {A : Around} (r : Room (k + 1) A) : Room k A.in1 :=
  ⟨by have := r.dp; show A.depth + 3 * k + 5 < _; omega, by have := r.un; show A.units + 1 + 16 * k + 200 < _; omega⟩
theorem Room.depth {k : Nat} {A : Around} (r : Room k A) : A.depth < recursionLimit := by have := r.dp; omega
theorem Room.units {k : Nat} {A : Around} (r : Room k A) : A.units + 64 < cLine := by have := r.un; omega
theorem Room.units0 {k : Nat} {A : Around} (r : Room k A) : A.units < cLine := by have := r.un; omega
def tNil : TA := fun _ H Q => Q [] H
def tCons (ta : TE) (tr : TA) : TA := fun σ H Q => ta σ H fun x H1 => tr σ H1 fun xs H2 => Q (x :: xs) H2
section
variable {X : Cx} {e : Expr} {es : List Expr} {te : TE} {t : TA} {pos : Pos}
theorem pa_nil : PA X [] tNil := .mk fun _ _ _ _ H Q I h => Calls.spliced_nil ⟨[], H, I, .nil, h⟩
theorem pa_cons (ha : PE X e te) (hr : PA X es t) (hs : starEach (e :: es) X.env = (false, eval e X.env) :: starEach es X.env := by rfl) : PA X (e :: es) (tCons te t) := by
  constructor
  intro pos pins s σ H Q I h
  rw [hs]
  show wpAny _ _ (spliced ((false, eval e X.env) :: backTo pos (starEach es X.env))) _ _ s
  refine Calls.spliced_cons (thn (ha pins s σ H _ I h) fun u s1 ⟨x, H1, I1, r1, q1⟩ => ?_)
  exact thn (hr pos pins s1 σ H1 _ I1 q1) fun us s2 ⟨xs, H2, I2, r2, q2⟩ => ⟨x :: xs, H2, I2, .cons r1 r2, q2⟩
def tTup (t : TA) : TE := fun σ H Q => t σ H fun xs H1 => xs.length ≤ sizeLine ∧ ∀ p, H1 p = none → Q (.ref p) (upd H1 p (.tup xs))
def tLst (t : TA) : TE := fun σ H Q => t σ H fun xs H1 => xs.length ≤ sizeLine ∧ ∀ p, H1 p = none → Q (.ref p) (upd H1 p (.lst xs))
theorem pe_tup {x1} (h : PA X es t) : PE X (.Tuple es x1 pos) (tTup t) := by
  constructor
  intro pins s σ H Q I hq
  refine wpAny_Tuple_spliced (thn (h pos pins s σ H _ I hq) fun us s1 ⟨xs, H1, I1, r, z, q⟩ => ⟨by rw [← r.length]; exact z, ?_⟩)
  have hf : H1 s1.heap.objs.size = none := I1.hok.fresh (Nat.le_refl _)
  refine ⟨.ref s1.heap.objs.size, upd H1 s1.heap.objs.size (.tup xs), I1.laid (t' := s1.toks) (fun b u e => Heap.get?_push_of_some _ e) (Nat.le_refl _) ?_, rfl, q _ hf⟩
  exact ⟨z, us, r, ⟨_, Heap.get?_push_size _ rfl, rfl, _, rfl⟩⟩
theorem pe_lst (h : PA X es t) : PE X (.List es pos) (tLst t) := by
  constructor
  intro pins s σ H Q I hq
  refine wpAny_List_spliced (thn (h pos pins s σ H _ I hq) fun us s1 ⟨xs, H1, I1, r, z, q⟩ => ⟨by rw [← r.length]; exact z, ?_⟩)
  have hf : H1 s1.heap.objs.size = none := I1.hok.fresh (Nat.le_refl _)
  refine ⟨.ref s1.heap.objs.size, upd H1 s1.heap.objs.size (.lst xs), I1.laid (t' := s1.toks) (fun b u e => Heap.get?_push_of_some _ e) (Nat.le_refl _) ?_, rfl, q _ hf⟩
  exact ⟨z, us, 0, r, Heap.get?_push_size _ rfl⟩
end
abbrev Sp := List V → Hp → VK → XK → Prop
abbrev CXT := List Env → Hp → Shared → XK → Value → Shared → Prop
structure Env0 (P : Program) (w : World) (K : PySem.W.Frag) (mg : Str → Option Value) (base : Heap) (A : Around) (outer : List Env) (s : Shared) (H : Hp) : Prop where
  frames : A.frames = some outer
  mod : Mod K mg base
  bs : ∀ b o, base.get? b = some o → s.heap.get? b = some o ∧ H b = none
  bsz : base.objs.size ≤ s.heap.objs.size
  funs : s.heap.FunFrames base outer
  frf : ∀ b ∈ frs outer, H b = none
  hok : HOk P w H s.heap
  bare : AllBare s.gens
def CE (outer : List Env) (P : Program) (w : World) (H : Hp) (s : Shared) (Q : VK) (u : Value) (s' : Shared) : Prop :=
  ∃ v H', s'.os = s.os ∧ AllBare s'.gens ∧ Un (frs outer) [] H H' s.heap s'.heap ∧ HOk P w H' s'.heap ∧ RelV v u ∧ Q v H'
def CR (CX : CXT) (outer : List Env) (P : Program) (w : World) (H : Hp) (s : Shared) (Q : VK) (E : XK) (r : Result) (s' : Shared) : Prop :=
  match r with
  | .ok (.ret u) => CE outer P w H s Q u s'
  | .ok _ => False
  | .error e => CX outer H s E e s'
structure FnOk (P : Program) (w : World) (K : PySem.W.Frag) (mg : Str → Option Value) (base : Heap) (CX : CXT) (c : Bool) (k : Nat) (f : Addr) (fd : FuncData) (ps : List Str) (sp : Sp) : Prop where
  len : ∀ vs H Q E, sp vs H Q E → vs.length = ps.length
  run : ∀ (A : Around) (outer : List Env) (s : Shared) (H : Hp) (args : Args) (us : List Value) (vs : List V) (Q : VK) (E : XK) (hx : Option (Addr × Obj)), (c = true → A.handled = none) → HdOk hx A → HxOk hx H → Room k A → Env0 P w K mg base A outer s H → BindsTo s fd args (ps.zip us) → Vals vs us → sp vs H Q E →
    codeAny (model P w) A (.call (.ref f) args) (CR CX outer P w H s Q E) s
theorem FnOk.mono {P : Program} {w : World} {K : PySem.W.Frag} {mg : Str → Option Value} {base : Heap} {CX : CXT} {c : Bool} {j k : Nat} {f : Addr} {fd : FuncData} {ps : List Str} {sp : Sp} (F : FnOk P w K mg base CX c j f fd ps sp) (h : j ≤ k) :
    FnOk P w K mg base CX c k f fd ps sp := ⟨F.len, fun A outer s H args us vs Q E hx hc hd hh hr => F.run A outer s H args us vs Q E hx hc hd hh (hr.mono h)⟩
theorem Env0.in1 {P : Program} {w : World} {K : PySem.W.Frag} {mg : Str → Option Value} {base : Heap} {A : Around} {outer : List Env} {s : Shared} {H : Hp} (e : Env0 P w K mg base A outer s H) :
    Env0 P w K mg base A.in1 outer s H := ⟨e.frames, e.mod, e.bs, e.bsz, e.funs, e.frf, e.hok, e.bare⟩
section
variable {X : Cx} {pins : List (Addr × Obj)} {σ : St} {H : Hp} {s s' : Shared}
theorem Inv.env0 (I : Inv X pins σ H s) : Env0 X.prog X.w X.K X.mg X.base X.A X.stack s H :=
  ⟨I.ok.frames, I.ok.mod, I.bs, Nat.le_trans I.ok.bsz I.sz, I.stack, I.stkFree, I.hok, I.bare⟩
theorem Inv.after {Q : VK} {u : Value} (I : Inv X pins σ H s) (h : CE X.stack X.prog X.w H s Q u s') : EP X pins σ Q u s' := by
  obtain ⟨v, H', os, bare, un, hok, r, q⟩ := h
  obtain ⟨hh, g, d, t, os'⟩ := s'
  obtain rfl : os' = s.os := os
  exact ⟨v, H', I.call (h' := hh) (g' := g) (d' := d) (t' := t) (ch := []) un hok bare (fun b z => absurd z (by simp)), r, q⟩
end
def tCall (sp : Sp) (dvs : List V) (E : XK) (t : TA) : TE := fun σ H Q => t σ H fun vs H1 => sp (vs ++ dvs) H1 Q E
def tMeth (C : Addr) (m : Str) (sp : Sp) (dvs : List V) (E : XK) (ta : TE) (t : TA) : TE := fun σ H Q => ta σ H fun x H1 => ∃ a dx fs, x = .ref a ∧ H1 a = some (.ins C dx fs) ∧ fs.lookup m = none ∧
  t σ H1 fun vs H2 => sp (x :: (vs ++ dvs)) H2 Q E
def tMake (C : Addr) (sp : Sp) (dvs : List V) (E : XK) (t : TA) : TE := fun σ H Q => t σ H fun vs H1 => ∀ x dx, H1 x = none → H1 dx = none → dx ≠ x →
  sp (.ref x :: (vs ++ dvs)) (upd (upd H1 dx (.own x)) x (.ins C dx [])) (fun v H2 => v = .non ∧ Q (.ref x) H2) E
def Binds (K : PySem.W.Frag) (fd : FuncData) (ps : List Str) (ds : List Value) : Prop :=
  ∀ (s : Shared) (us : List Value), K.In s.heap → (us ++ ds).length = ps.length → BindsTo s fd ⟨us, []⟩ (ps.zip (us ++ ds))
theorem Binds.all {K : PySem.W.Frag} {fd : FuncData} {ps : List Str} (h : ∀ us : List Value, us.length = ps.length → bindArgs fd ⟨us, []⟩ = pure (ps.zip us)) : Binds K fd ps [] := fun s us _ hl => by
  rw [List.append_nil] at hl ⊢
  exact .of_eq (h us hl)
def Passes (CX : CXT) (X : Cx) (E : XK) : Prop := ∀ (pins : List (Addr × Obj)) (σ : St) (H : Hp) (s : Shared) (e : Value) (s' : Shared), Inv X pins σ H s → CX X.stack H s E e s' → X.xe e s'
section
variable {X : Cx} {CX : CXT} {c : Bool} {k : Nat} {f C : Addr} {fd : FuncData} {ps : List Str} {sp : Sp} {dvs : List V} {ds : List Value} {E : XK} {x m : Str} {p pos apos : Pos} {e o : Expr} {es : List Expr} {ta : TE} {t : TA}
theorem run_fn {pins : List (Addr × Obj)} {σ : St} {H : Hp} {s : Shared} {Q : VK} {us : List Value} {vs : List V} (F : FnOk X.prog X.w X.K X.mg X.base CX c k f fd ps sp) (hca : c = true → X.calm = true) (hr : Room k X.A) (hb : Binds X.K fd ps ds) (hd : Vals dvs ds) (hx : Passes CX X E)
    (I : Inv X pins σ H s) (r : Vals vs us) (h : sp (vs ++ dvs) H Q E) : wpAny (model X.prog X.w) X.A (call (.ref f) us) (EP X pins σ Q) X.xe s := by
  have r2 : Vals (vs ++ dvs) (us ++ ds) := r.append hd
  have hl : (us ++ ds).length = ps.length := by rw [← r2.length]; exact F.len _ _ _ _ h
  refine wpAny_call (codeAny_mono (F.run X.A X.stack s H ⟨us, []⟩ (us ++ ds) (vs ++ dvs) Q E X.hx (fun z => I.ok.hd (hca z)) I.ok.hnd I.hxs hr I.env0 (hb s us I.kIn hl) r2 h) fun r s' hq => ?_)
  cases r with
  | error e => exact hx pins σ H s e s' I hq
  | ok fl =>
    cases fl with
    | ret u => exact I.after hq
    | next => exact False.elim hq
    | brk => exact False.elim hq
    | cont => exact False.elim hq
theorem pe_call (F : FnOk X.prog X.w X.K X.mg X.base CX c k f fd ps sp) (hca : c = true → X.calm = true) (hr : Room k X.A) (hg : Gl X x) (hm : X.mg x = some (.ref f)) (hk : PySem.W.keepIn X.K (.ref f) = true) (hb : Binds X.K fd ps ds) (hd : Vals dvs ds) (hx : Passes CX X E)
    (ha : PA X (e :: es) t) (hdb : (x == ("__debug__" : Str)) = false := by decide) (he : starEach (e :: es) X.env = (false, eval e X.env) :: starEach es X.env := by rfl) (hpl : (backTo pos (starEach es X.env)).any (·.1) = false := by rfl) :
    PE X (.Call (.Name x p) (e :: es) [] pos) (tCall sp dvs E t) := by
  constructor
  intro pins s σ H Q I h
  refine wpAny_Call_Name_kw (ld_glob I hg hm ?_ hdb)
  refine PySem.W.callWith_K (h₀ := X.base) I.ok.mod.kin hk (thn (ha pos pins s σ H _ I h) fun us s1 ⟨vs, H1, I1, r, q⟩ => ⟨I1.kIn, ?_⟩) he hpl
  exact run_fn F hca hr hb hd hx I1 r q
structure Mk (K : PySem.W.Frag) (C f : Addr) : Prop where
  makes : PySem.W.makesIn K C = true
  init : PySem.W.findIn K (.ref C) "__init__" = some (some (.ref f))
  fn : PySem.W.isFn K (.ref f) = true
  kp : PySem.W.keepIn K (.ref C) = true
end
def PK (X : Cx) (kws : List Keyword) (t : TA) : Prop :=
  ∀ (pos : Pos) (pins : List (Addr × Obj)) (s : Shared) (σ : St) (H : Hp) (Q : List V → Hp → Prop), Inv X pins σ H s → t σ H Q → wpAny (model X.prog X.w) X.A (evalAll ((backToKw pos (keywordEach kws X.env)).map (·.2))) (AP X pins σ Q) X.xe s
section
variable {X : Cx} {CX : CXT} {c : Bool} {k : Nat} {f C : Addr} {fd : FuncData} {ps ks : List Str} {sp : Sp} {E : XK} {x m : Str} {p pos apos kpos : Pos} {e o : Expr} {es : List Expr} {kws : List Keyword} {te ta : TE} {t tk : TA} {nm : Option Str}
structure KBinds (K : PySem.W.Frag) (fd : FuncData) (ps ks : List Str) (g : List Value → List Value → List Value) (gV : List V → List V → List V) : Prop where
  to : ∀ (s : Shared) (us ws : List Value), K.In s.heap → (g us ws).length = ps.length → BindsTo s fd ⟨us, ks.zip ws⟩ (ps.zip (g us ws))
  rel : ∀ {vs : List V} {us : List Value} {zs : List V} {ws : List Value}, Vals vs us → Vals zs ws → Vals (gV vs zs) (g us ws)
def tCallK (sp : Sp) (gV : List V → List V → List V) (E : XK) (t tk : TA) : TE := fun σ H Q => t σ H fun vs H1 => tk σ H1 fun zs H2 => sp (gV vs zs) H2 Q E
variable {g : List Value → List Value → List Value} {gV : List V → List V → List V}
end
structure FnScope (N P : List Str) (sc : Scope) : Prop where
  kind : sc.kind = .function
  co : sc.isCoroutine = false
  gen : sc.isGenerator = false
  nd : N.Nodup
  pre : N.take P.length = P
  par : ∀ x ∈ P, sc.names.lookup x = some .local ∨ sc.names.lookup x = some .cell
  nofree : ∀ y ∈ sc.names, y.2 ≠ .free
theorem bindL_out {kindOf : Str → Option NameKind} {x : Str} : ∀ {binds : List (Str × Value)} {m : Str → Option Value}, (∀ v, (x, v) ∉ binds) → bindL kindOf binds m x = m x
  | [], _, _ => rfl
  | (n, v) :: r, m, h => by
    unfold bindL
    rw [bindL_out fun w hw => h w (List.mem_cons_of_mem _ hw)]
    split
    · have : x ≠ n := by rintro rfl; exact h v List.mem_cons_self
      simp [this]
    · rfl
theorem bindC_out {kindOf : Str → Option NameKind} {x : Str} : ∀ {binds : List (Str × Value)} {m : Str → Option Value}, (∀ v, (x, v) ∉ binds) → bindC kindOf binds m x = m x
  | [], _, _ => rfl
  | (n, v) :: r, m, h => by
    unfold bindC
    rw [bindC_out fun w hw => h w (List.mem_cons_of_mem _ hw)]
    split
    · rfl
    · have : x ≠ n := by rintro rfl; exact h v List.mem_cons_self
      simp [this]
theorem bindL_get {kindOf : Str → Option NameKind} {x : Str} {v : Value} : ∀ {P : List Str} {vs : List Value} {i : Nat} {m : Str → Option Value}, P.Nodup → P[i]? = some x → vs[i]? = some v → kindOf x = some .local →
    bindL kindOf (P.zip vs) m x = some v
  | [], _, _, _, _, h, _, _ => by simp at h
  | _ :: _, [], _, _, _, _, h, _ => by simp at h
  | p :: P, w :: vs, 0, m, nd, h1, h2, hk => by
    simp at h1 h2; subst h1; subst h2
    show bindL kindOf ((p, w) :: P.zip vs) m p = _
    unfold bindL
    rw [bindL_out fun v hv => (List.nodup_cons.mp nd).1 (List.of_mem_zip hv).1, if_pos hk]
    simp
  | p :: P, w :: vs, i + 1, m, nd, h1, h2, hk => by
    show bindL kindOf ((p, w) :: P.zip vs) m x = _
    unfold bindL
    exact bindL_get (i := i) (List.nodup_cons.mp nd).2 (by simpa using h1) (by simpa using h2) hk
theorem bindC_get {kindOf : Str → Option NameKind} {x : Str} {v : Value} : ∀ {P : List Str} {vs : List Value} {i : Nat} {m : Str → Option Value}, P.Nodup → P[i]? = some x → vs[i]? = some v → kindOf x ≠ some .local →
    bindC kindOf (P.zip vs) m x = some v
  | [], _, _, _, _, h, _, _ => by simp at h
  | _ :: _, [], _, _, _, _, h, _ => by simp at h
  | p :: P, w :: vs, 0, m, nd, h1, h2, hk => by
    simp at h1 h2; subst h1; subst h2
    show bindC kindOf ((p, w) :: P.zip vs) m p = _
    unfold bindC
    rw [bindC_out fun v hv => (List.nodup_cons.mp nd).1 (List.of_mem_zip hv).1, if_neg hk]
    simp
  | p :: P, w :: vs, i + 1, m, nd, h1, h2, hk => by
    show bindC kindOf ((p, w) :: P.zip vs) m x = _
    unfold bindC
    exact bindC_get (i := i) (List.nodup_cons.mp nd).2 (by simpa using h1) (by simpa using h2) hk
def start (N : List Str) (vs : List V) : St := vs.map some ++ List.replicate (N.length - vs.length) none
def cxOf (CX : CXT) (P : Program) (w : World) (K : PySem.W.Frag) (mg : Str → Option Value) (base : Heap) (c : Bool) (hx : Option (Addr × Obj)) (N : List Str) (qual : Str) (scope : Scope) (f : Addr) (cd : Value) (A : Around) (outer : List Env) (s : Shared) (H : Hp) (E : XK) : Cx where
  prog := P
  w := w
  K := K
  mg := mg
  base := base
  A := A.deeper (envOfC qual scope s.heap.objs.size f cd)
  N := N
  s₀ := s
  H₀ := H
  env := envOfC qual scope s.heap.objs.size f cd
  outer := outer
  stack := envOfC qual scope s.heap.objs.size f cd :: outer
  ex := []
  calm := c
  hx := hx
  fn := fun _ => true
  pn := []
  xe := fun e s' => wpAny (model P w) (A.deeper (envOfC qual scope s.heap.objs.size f cd)) (leaving (envOfC qual scope s.heap.objs.size f cd) e) (fun _ s'' => CX outer H s E e s'') (fun e' s'' => CX outer H s E e' s'') s'
theorem cell_has {sc : Scope} {n : Nat} {x : Str} (h : sc.names.lookup x = some .cell) : ∃ c, (cellsFrom n sc.names []).lookup x = some c := by
  have q := PySem.W.cellsFrom_some sc.names n [] (.inl h)
  exact Option.isSome_iff_exists.mp q
theorem inv_start {CX : CXT} {P : Program} {w : World} {K : PySem.W.Frag} {mg : Str → Option Value} {base : Heap} {c : Bool} {hx : Option (Addr × Obj)} {N ps : List Str} {qual : Str} {scope : Scope} {f : Addr} {cd : Value} {A : Around} {outer : List Env} {s s1 : Shared} {H : Hp} {E : XK} {us : List Value} {vs : List V}
    (S : FnScope N ps scope) (hca : c = true → A.handled = none) (hd : HdOk hx A) (hh : HxOk hx H) (e0 : Env0 P w K mg base A outer s H) (hl : vs.length = ps.length) (r : Vals vs us)
    (x : InCallC s s.heap.objs.size (bindL (envOfC qual scope s.heap.objs.size f cd).kindOf (ps.zip us) fun _ => none) (cellsFrom (s.heap.objs.size + 1) scope.names []) (bindC (envOfC qual scope s.heap.objs.size f cd).kindOf (ps.zip us) fun _ => none) s1) :
    Inv (cxOf CX P w K mg base c hx N qual scope f cd A outer s H E) [] (start N vs) H s1 := by
  have hpl : ps.length ≤ N.length := by have := congrArg List.length S.pre; rw [List.length_take] at this; omega
  obtain ⟨h1, tk, rfl, hk⟩ := x.done
  have noA : ∀ b : Addr, b ∉ (cxOf CX P w K mg base c hx N qual scope f cd A outer s H E).ex := fun b z => absurd (show b ∈ ([] : List Addr) from z) (by simp)
  refine ⟨⟨e0.mod, S.kind, rfl, rfl, Nat.le_refl _, fun y z c h1 h2 => ?_, fun y hy => ?_, fun y c _ h => ?_, fun z => hca z, Around.frames_deeper e0.frames, .inr ⟨rfl, rfl⟩, fun b z => absurd z (noA b), e0.bs, e0.bsz, fun b _ _ => noA b, fun b z => absurd z (noA b), e0.funs, e0.frf, hd.mono rfl⟩,
    rfl, e0.bare, Un.kept hk, ⟨_, x.toInCall.ns, fun i y v h1 h2 h3 => ?_⟩, fun y c h => ⟨_, x.cell y c h⟩, e0.hok.fresh (Nat.le_refl _), fun y c h => ?_, fun p hp => absurd (show p ∈ ([] : List (Addr × Obj)) from hp) (by simp), e0.hok.kept hk, ?_, hh⟩
  · exact name_of_addr x.apart (PySem.mem_of_lookup h1) (PySem.mem_of_lookup h2)
  · have hy : scope.names.lookup y = some .cell ∨ scope.names.lookup y = some .free := hy
    rcases hy with hy | hy
    · exact cell_has hy
    · exact absurd rfl (S.nofree _ (PySem.mem_of_lookup hy))
  · exact Nat.le_of_lt (x.above y c (PySem.mem_of_lookup h))
  · have hi : i < vs.length := by
      unfold start at h2
      by_cases hi : i < vs.length
      · exact hi
      · rw [List.getElem?_append_right (by simpa using hi)] at h2
        rw [List.getElem?_replicate] at h2
        split at h2 <;> cases h2
    have ha : vs[i]? = some v := by
      unfold start at h2
      rw [List.getElem?_append_left (by simpa using hi), List.getElem?_map] at h2
      cases e : vs[i]? with
      | none => rw [e] at h2; cases h2
      | some a => rw [e] at h2; cases h2; rfl
    obtain ⟨u, hu, rv⟩ := r.get ha
    have hp : ps[i]? = some y := by
      rw [← S.pre, List.getElem?_take_of_lt (by omega)]; exact h1
    have ndP : ps.Nodup := by rw [← S.pre]; exact S.nd.sublist (List.take_sublist _ _)
    refine ⟨u, rv, ?_⟩
    rcases S.par y (List.mem_of_getElem? hp) with k | k
    · exact .inl ⟨k, bindL_get ndP hp hu k⟩
    · obtain ⟨c, e⟩ := cell_has (n := s.heap.objs.size + 1) k
      refine .inr ⟨.inl k, c, e, ?_⟩
      have q := x.cell y c e
      rw [bindC_get ndP hp hu (by show scope.names.lookup y ≠ _; rw [k]; decide)] at q
      exact q
  · exact e0.hok.fresh (Nat.le_of_lt (x.above y c (PySem.mem_of_lookup h)))
  · unfold start
    show _ = N.length
    rw [List.length_append, List.length_map, List.length_replicate]
    omega
theorem fn_of {CX : CXT} {P : Program} {w : World} {K : PySem.W.Frag} {mg : Str → Option Value} {base : Heap} {c : Bool} {k : Nat} {f : Addr} {name qual : Str} {params : Arguments} {body : List Stmt} {scope : Scope} {dV kV doc pm cdv ct oc : Value} {an od : Option Addr}
    {osl : Array (Option Value)} {N ps : List Str} {sp : Sp} (lk : K.lookup f = some ⟨oc, od, .func (PySem.W.fnOf name qual params body scope dV kV doc pm an cdv ct), osl⟩) (hcd : PySem.W.codeIn K cdv qual = true) (S : FnScope N ps scope)
    (len : ∀ vs H Q E, sp vs H Q E → vs.length = ps.length)
    (hbody : ∀ (A : Around) (outer : List Env) (s : Shared) (H : Hp) (vs : List V) (Q : VK) (E : XK) (hx : Option (Addr × Obj)), (c = true → hx = none) → HxOk hx H → Room k (A.deeper (envOfC qual scope s.heap.objs.size f cdv)) → sp vs H Q E →
      ∃ t, PSs (cxOf CX P w K mg base c hx N qual scope f cdv A outer s H E) body t ∧ t { nx := fun _ H' => Q .non H', rt := Q } (start N vs) H) :
    FnOk P w K mg base CX c (k + 1) f (PySem.W.fnOf name qual params body scope dV kV doc pm an cdv ct) ps sp := by
  refine ⟨len, fun A outer s H args us vs Q E hx0 hca hd0 hh0 hr e0 hb r hsp => ?_⟩
  obtain ⟨hx, hcx, hd, hh⟩ : ∃ hx : Option (Addr × Obj), (c = true → hx = none) ∧ HdOk hx A ∧ HxOk hx H := by
    cases c with
    | true => exact ⟨none, fun _ => rfl, .inl (hca rfl), (fun _ _ z => nomatch z)⟩
    | false => exact ⟨hx0, (fun z => nomatch z), hd0, hh0⟩
  have hl := len _ _ _ _ hsp
  have KX : K.In s.heap := e0.mod.kin.keeps fun b o e => (e0.bs b o e).1
  have lim : s.heap.NoLimit := e0.mod.nolimit.keeps fun b o e => (e0.bs b o e).1
  have hkind : ∀ y ∈ ps.zip us, scope.names.lookup y.1 = some .local ∨ (scope.names.lookup y.1 = some .cell ∧ ((cellsFrom (s.heap.objs.size + 1) scope.names []).lookup y.1).isSome = true) := fun ⟨n, v⟩ hy => by
    rcases S.par n (List.of_mem_zip hy).1 with q | q
    · exact .inl q
    · exact .inr ⟨q, PySem.W.cellsFrom_some _ _ _ (.inl q)⟩
  refine codeAny_call_function hr.depth (KX _ _ lk) rfl S.co S.gen rfl (PySem.W.codeRec_of KX hcd) (hb _ _ _ _ ?_)
  refine wpAny_newFunctionEnv_cells S.kind hkind fun env he s1 x => ?_
  subst he
  refine ⟨lim.keeps x.toInCall.keep, codeAny_func ?_⟩
  obtain ⟨t, ht, hq⟩ := hbody A outer s H vs Q E hx hcx hh (hr.deeper _) hsp
  have I : Inv (cxOf CX P w K mg base c hx N qual scope f cdv A outer s H E) [] (start N vs) H s1 := inv_start S hca hd hh e0 hl r x
  refine wpAny_mono (ht [] s1 (start N vs) H _ I hq) (fun fl s' hs => ?_) fun e s' hs => hs
  have fin : ∀ {σ' : St} {H' : Hp} {v : V} {u : Value}, Inv (cxOf CX P w K mg base c hx N qual scope f cdv A outer s H E) [] σ' H' s' → RelV v u → Q v H' → CE outer P w H s Q u s' :=
    fun {σ' H' v u} J rv q => ⟨v, H', J.os, J.bare, J.base, J.hok, rv, q⟩
  cases fl with
  | ret u =>
    obtain ⟨v, σ', H', J, rv, q⟩ := hs
    exact fin J rv q
  | next =>
    obtain ⟨σ', H', J, q⟩ := hs
    exact fin (v := V.non) (u := Value.none) J rfl q
  | brk =>
    obtain ⟨_, _, _, q⟩ := hs
    exact False.elim q
  | cont =>
    obtain ⟨_, _, _, q⟩ := hs
    exact False.elim q
end L2
namespace L2
open PySem PySem.Spec PyProof.Rows
section
variable {X : Cx} {x : Str} {p pos : Pos} {e : Expr} {es : List Expr} {t : TA} {id T : String} {r : List V → Hp → VK → Prop}
def tCB (r : List V → Hp → VK → Prop) (t : TA) : TE := fun σ H Q => t σ H fun vs H1 => r vs H1 Q
theorem pe_callB (hc : CallR X (.builtin id) r) (hg : Gl X x) (hm : X.mg x = none) (hv : bootBuiltins x = some (.builtin id)) (ha : PA X (e :: es) t) (hn : x ≠ "__name__" := by decide) (hdb : (x == ("__debug__" : Str)) = false := by decide)
    (he : starEach (e :: es) X.env = (false, eval e X.env) :: starEach es X.env := by rfl) (hpl : (backTo pos (starEach es X.env)).any (·.1) = false := by rfl) : PE X (.Call (.Name x p) (e :: es) [] pos) (tCB r t) := by
  constructor
  intro pins s σ H Q I h
  refine wpAny_Call_Name_kw (ld_blt I hg hm hv ?_ hn hdb)
  exact PyProof.Rows.callWith_builtin1 (thn (ha pos pins s σ H _ I h) fun us s1 ⟨vs, H1, I1, r1, q1⟩ => hc pins s1 σ H1 vs us Q I1 r1 q1) he hpl
theorem pe_callTy (hc : CallR X (.type T) r) (hg : Gl X x) (hm : X.mg x = none) (hv : bootBuiltins x = some (.type T)) (ha : PA X (e :: es) t) (hn : x ≠ "__name__" := by decide) (hdb : (x == ("__debug__" : Str)) = false := by decide)
    (he : starEach (e :: es) X.env = (false, eval e X.env) :: starEach es X.env := by rfl) (hpl : (backTo pos (starEach es X.env)).any (·.1) = false := by rfl) : PE X (.Call (.Name x p) (e :: es) [] pos) (tCB r t) := by
  constructor
  intro pins s σ H Q I h
  refine wpAny_Call_Name_kw (ld_blt I hg hm hv ?_ hn hdb)
  exact PyProof.Rows.callWith_type1 (thn (ha pos pins s σ H _ I h) fun us s1 ⟨vs, H1, I1, r1, q1⟩ => hc pins s1 σ H1 vs us Q I1 r1 q1) he hpl
end
end L2
namespace HT
open PySem PyProof.Rows
def lexLt : List Int → List Int → Bool
  | [], [] => false
  | [], _ :: _ => true
  | _ :: _, [] => false
  | x :: xs, y :: ys => if x = y then lexLt xs ys else decide (x < y)
section
open PySem.SeqAt
open PySem.AutoSeq1 (wpAny_loadPart')
open PySem.MeetsSeq PySem.MeetsSeq2 PySem.MeetsSeq3
end
section
variable {prog : Program} {w : World} {A : Around} {E : Value → Shared → Prop} {s : Shared}
def sIx (n d : Nat) : Option Int → Nat
  | none => d
  | some v => if v < 0 then (v + (n : Int)).toNat else min v.toNat n
end
end HT
namespace L2
open PySem PySem.Spec PyProof.Rows
abbrev TO := St → Hp → (Option Int → Hp → Prop) → Prop
structure PO (X : Cx) (e : Option Expr) (t : TO) : Prop where
  run : ∀ (pins : List (Addr × Obj)) (s : Shared) (σ : St) (H : Hp) (Q : Option Int → Hp → Prop), Inv X pins σ H s → t σ H Q →
    wpAny (model X.prog X.w) X.A (evalPart e X.env) (fun u s' => ∃ o H', Inv X pins σ H' s' ∧ IsPart u o ∧ Q o H') X.xe s
instance {X : Cx} {e : Option Expr} {t : TO} : CoeFun (PO X e t) (fun _ => ∀ (pins : List (Addr × Obj)) (s : Shared) (σ : St) (H : Hp) (Q : Option Int → Hp → Prop), Inv X pins σ H s → t σ H Q →
    wpAny (model X.prog X.w) X.A (evalPart e X.env) (fun u s' => ∃ o H', Inv X pins σ H' s' ∧ IsPart u o ∧ Q o H') X.xe s) := ⟨fun h => h.run⟩
def tNoPart : TO := fun _ H Q => Q none H
def tPart (t : TE) : TO := fun σ H Q => t σ H fun x H1 => ∃ i, x = .int i ∧ Q (some i) H1
section
variable {X : Cx} {e : Expr} {te : TE} {lo hi : Option Expr} {tl th : TO} {pos p2 : Pos}
theorem po_none : PO X none tNoPart := by
  constructor
  intro pins s σ H Q I h
  rw [evalPart_none]
  exact wpAny_pure ⟨none, H, I, .none, h⟩
theorem po_some (h : PE X e te) : PO X (some e) (tPart te) := by
  constructor
  intro pins s σ H Q I hw
  rw [evalPart_some]
  refine thn (h pins s σ H _ I hw) fun u s1 ⟨x, H1, I1, r1, q1⟩ => ?_
  obtain ⟨i, rfl, q⟩ := q1
  obtain ⟨t, rfl⟩ := r1
  exact ⟨some i, H1, I1, .int i t, q⟩
def SlR (X : Cx) (r : V → Option Int → Option Int → Hp → VK → Prop) : Prop :=
  ∀ (pins : List (Addr × Obj)) (s : Shared) (σ : St) (H : Hp) (x : V) (v vl vu : Value) (lo hi : Option Int) (sl : Addr) (Q : VK), Inv X pins σ H s → RelV x v → s.heap.IsSliceOf sl vl vu .none → IsPart vl lo → IsPart vu hi → r x lo hi H Q →
    ∃ T id, typeLookup (.type T) "__getitem__" = pure (some (.builtin id)) ∧ s.TypeIs v T ∧ wpAny (model X.prog X.w) X.A (getItem v (.ref sl)) (EP X pins σ Q) X.xe s
def tSl (r : V → Option Int → Option Int → Hp → VK → Prop) (te : TE) (tl th : TO) : TE := fun σ H Q => te σ H fun x H1 => tl σ H1 fun l H2 => th σ H2 fun u H3 => r x l u H3 Q
theorem pe_slice {r : V → Option Int → Option Int → Hp → VK → Prop} (hr : SlR X r) (he : PE X e te) (hl : PO X lo tl) (hu : PO X hi th) : PE X (.Subscript e (.Slice lo hi none p2) pos) (tSl r te tl th) := by
  constructor
  intro pins s σ H Q I h
  refine Subscript_ (thn (he pins s σ H _ I h) fun v s1 ⟨x, H1, I1, r1, q1⟩ => ?_)
  refine wpAny_Slice (thn (hl pins s1 σ H1 _ I1 q1) fun vl s2 ⟨l, H2, I2, pl, q2⟩ => thn (hu pins s2 σ H2 _ I2 q2) fun vu s3 ⟨u, H3, I3, pu, q3⟩ => ?_)
  rw [evalPart_none]
  refine wpAny_pure ?_
  have I4 : Inv X pins σ H3 { s3 with heap := s3.heap.push { cls := .type "slice", data := .fields #[vl, vu, .none] } } := I3.kept (t' := s3.toks) fun b ob q => Heap.get?_push_of_some _ q
  obtain ⟨T, id, hT, ht, hg⟩ := hr pins { s3 with heap := s3.heap.push { cls := .type "slice", data := .fields #[vl, vu, .none] } } σ H3 x v vl vu l u s3.heap.objs.size Q I4 r1 (Heap.IsSliceOf.new ..) pl pu q3
  show wpAny (model X.prog X.w) X.A (subscriptTail e (.Slice lo hi none p2) v (.ref s3.heap.objs.size)) (EP X pins σ Q) X.xe { s3 with heap := s3.heap.push { cls := .type "slice", data := .fields #[vl, vu, .none] } }
  exact tail_any (ops := [.ref s3.heap.objs.size, v]) ht hT hg (by with_unfolding_all rfl)
def cutV (xs : List V) (lo hi : Option Int) : List V := (xs.drop (HT.sIx xs.length 0 lo)).take (HT.sIx xs.length xs.length hi - HT.sIx xs.length 0 lo)
theorem cutV_length (xs : List V) (lo hi : Option Int) : (cutV xs lo hi).length ≤ xs.length := by
  unfold cutV
  rw [List.length_take, List.length_drop]
  omega
def rSlT (K : PySem.W.Frag) : V → Option Int → Option Int → Hp → VK → Prop := fun x lo hi H Q => ∃ a xs, x = .ref a ∧ SqT K H a xs ∧
  ¬ (HT.sIx xs.length 0 lo = 0 ∧ HT.sIx xs.length xs.length hi = xs.length) ∧ ∀ p, H p = none → Q (.ref p) (upd H p (.tup (cutV xs lo hi)))
def rLtT (K : PySem.W.Frag) : R2 := fun x y H Q => ∃ a b ns ms, x = .ref a ∧ y = .ref b ∧ SqT K H a (ns.map V.int) ∧ SqT K H b (ms.map V.int) ∧ Q (.bl (HT.lexLt ns ms)) H
def rCatT (K : PySem.W.Frag) : R2 := fun x y H Q => ∃ a b xs ys, x = .ref a ∧ y = .ref b ∧ SqT K H a xs ∧ SqT K H b ys ∧ xs ≠ [] ∧ xs.length + ys.length ≤ sizeLine ∧
  (ys = [] → Q (.ref a) H) ∧ (ys ≠ [] → ∀ p, H p = none → Q (.ref p) (upd H p (.tup (xs ++ ys))))
end
end L2
namespace L2
open PySem PySem.Spec PyProof.Rows
def ixN (n : Nat) (i : Int) : Option Nat := if 0 ≤ i then (if i < n then some i.toNat else none) else if -(n : Int) ≤ i then some (i + n).toNat else none
def atI {α : Type} (xs : List α) (i : Int) : Option α := (ixN xs.length i).bind fun j => xs[j]?
theorem ixN_seq {n : Nat} {i : Int} {j : Nat} (h : ixN n i = some j) : seqIndex? i n = some j ∧ j < n ∧ -(n : Int) ≤ i ∧ i < n := by
  unfold ixN at h
  by_cases h0 : 0 ≤ i
  · rw [if_pos h0] at h
    by_cases h1 : i < n
    · rw [if_pos h1] at h
      have e : i.toNat = j := Option.some.inj h
      exact ⟨by rw [seqIndex_of h0 h1, e], by omega, by omega, h1⟩
    · rw [if_neg h1] at h; cases h
  · rw [if_neg h0] at h
    by_cases h1 : -(n : Int) ≤ i
    · rw [if_pos h1] at h
      have e : (i + n).toNat = j := Option.some.inj h
      exact ⟨by rw [seqIndex_neg (by omega) h1, e], by omega, h1, by omega⟩
    · rw [if_neg h1] at h; cases h
theorem atI_get {α : Type} {xs : List α} {i : Int} {v : α} (h : atI xs i = some v) : ∃ j, seqIndex? i xs.length = some j ∧ xs[j]? = some v ∧ j < xs.length ∧ -(xs.length : Int) ≤ i ∧ i < xs.length := by
  unfold atI at h
  cases e : ixN xs.length i with
  | none => rw [e] at h; cases h
  | some j =>
    rw [e] at h
    obtain ⟨h1, h2, h3, h4⟩ := ixN_seq e
    exact ⟨j, h1, h, h2, h3, h4⟩
theorem atI_nat {α : Type} {xs : List α} {j : Nat} {v : α} (h : xs[j]? = some v) : atI xs (j : Int) = some v := by
  have hj : j < xs.length := (List.getElem?_eq_some_iff.mp h).1
  have e : ixN xs.length (j : Int) = some j := by
    unfold ixN
    rw [if_pos (by omega), if_pos (by omega)]; simp
  unfold atI; rw [e]; exact h
theorem atI_last {α : Type} (xs : List α) (v : α) : atI (xs ++ [v]) (-1) = some v := by
  have hl : (xs ++ [v]).length = xs.length + 1 := by simp
  have e : ixN (xs ++ [v]).length (-1) = some xs.length := by
    unfold ixN
    rw [hl, if_neg (by decide), if_pos (by omega)]
    congr 1
    omega
  unfold atI
  rw [e]
  show (xs ++ [v])[xs.length]? = some v
  simp
def PlainIx (b : Expr) : Prop := ∀ o i, subscripted b false o i = operate [o, i] (getItem o i)
def IxR (X : Cx) (r : R2) : Prop :=
  ∀ (value slice : Expr) (pins : List (Addr × Obj)) (s : Shared) (σ : St) (H : Hp) (x y : V) (v u : Value) (Q : VK), Inv X pins σ H s → RelV x v → RelV y u → r x y H Q →
    subscripted slice false v u = operate [v, u] (getItem v u) → wpAny (model X.prog X.w) X.A (subscriptTail value slice v u) (EP X pins σ Q) X.xe s
def MtR (X : Cx) (id : String) (r : V → List V → Hp → VK → Prop) : Prop :=
  ∀ (pins : List (Addr × Obj)) (s : Shared) (σ : St) (H : Hp) (x : V) (xs : List V) (v : Value) (us : List Value) (Q : VK), Inv X pins σ H s → RelV x v → Vals xs us → r x xs H Q →
    wpAny (model X.prog X.w) X.A (call (.builtin id) (v :: us)) (EP X pins σ Q) X.xe s
section
variable {X : Cx} {a b : Expr} {ta tb : TE} {pos : Pos}
theorem pe_ix {r : R2} (hr : IxR X r) (ha : PE X a ta) (hb : PE X b tb) (hs : PlainIx b) : PE X (.Subscript a b pos) (tOp r ta tb) := by
  constructor
  intro pins s σ H Q I h
  exact Subscript_ (binT ha hb I h fun v u s2 x y H2 I2 rx ry q => hr a b pins s2 σ H2 x y v u Q I2 rx ry q (hs _ _))
def rIxL (K : PySem.W.Frag) : R2 := fun x y H Q => ∃ p xs i v, x = .ref p ∧ y = .int i ∧ SqL K H p xs ∧ atI xs i = some v ∧ Q v H
def rIxT (K : PySem.W.Frag) : R2 := fun x y H Q => ∃ p xs i v, x = .ref p ∧ y = .int i ∧ SqT K H p xs ∧ atI xs i = some v ∧ Q v H
def rIxS : R2 := fun x y H Q => ∃ z i c, x = .str z ∧ y = .int i ∧ z.length ≤ sizeLine ∧ atI z.cps.toList i = some c ∧ Q (.str ⟨#[c]⟩) H
theorem ix_list : IxR X (rIxL X.K) := by
  intro value slice pins s σ H x y v u Q I rx ry h hs
  obtain ⟨p, xs, i, z, rfl, rfl, hq, he, q⟩ := h
  cases rx
  obtain ⟨t, rfl⟩ := ry
  obtain ⟨its, r, pl, hz⟩ := I.list hq
  obtain ⟨j, h1, h2, h3, h4, h5⟩ := atI_get he
  obtain ⟨w, ew, rw'⟩ := r.get h2
  have hl := r.length
  have hn := line63
  have fin : EP X pins σ Q w s := ⟨z, H, I, rw', q⟩
  by_cases h0 : 0 ≤ i
  · have hj : i.toNat = j := by
      rw [seqIndex_of h0 h5] at h1
      exact Option.some.inj h1
    exact item_listR pl.isList h0 (by omega) (by rw [hj]; simpa using ew) fin hs
  · have hj : (i + (its.toArray.size : Int)).toNat = j := by
      rw [seqIndex_neg (by omega) h4] at h1
      rw [List.size_toArray, ← hl]
      exact Option.some.inj h1
    exact subscriptTail_builtinR (x := w) pl.isList.typeIs slot_list_getitem.lookup
      (wpAny_getItem_list_neg (Q := fun r s' => r = w ∧ EP X pins σ Q r s') pl.isList (by omega) (by rw [List.size_toArray] <;> omega) (by omega) (by rw [hj]; simpa using ew) ⟨rfl, fin⟩) hs
def rIx (K : PySem.W.Frag) : R2 := fun x y H Q => rIxL K x y H Q ∨ rIxT K x y H Q ∨ rIxS x y H Q
theorem mapSeq_set (its : List Value) (n j : Nat) (u : Value) : Obj.mapSeq (·.setIfInBounds j u) { cls := .type "list", data := .seq its.toArray n } = { cls := .type "list", data := .seq (its.set j u).toArray n } := by
  simp [Obj.mapSeq]
theorem Inv.lst {pins : List (Addr × Obj)} {σ : St} {H : Hp} {s : Shared} {p : Addr} {xs : List V} (I : Inv X pins σ H s) (h : H p = some (.lst xs)) :
    ∃ (its : List Value) (n : Nat), Vals xs its ∧ s.heap.get? p = some { cls := .type "list", data := .seq its.toArray n } ∧ xs.length ≤ sizeLine := by
  obtain ⟨z, its, n, r, e⟩ := I.hok p _ h
  exact ⟨its, n, r, e, z⟩
theorem Inv.lstUpd {pins : List (Addr × Obj)} {σ : St} {H : Hp} {s : Shared} {p : Addr} {xs ys : List V} {its its' : List Value} {n n' : Nat} {f : Obj → Obj} (I : Inv X pins σ H s) (h : H p = some (.lst xs))
    (ho : s.heap.get? p = some { cls := .type "list", data := .seq its.toArray n }) (hf : f { cls := .type "list", data := .seq its.toArray n } = { cls := .type "list", data := .seq its'.toArray n' }) (r : Vals ys its') (hz : ys.length ≤ sizeLine) (t : Nat) :
    Inv X pins σ (upd H p (.lst ys)) { s with heap := s.heap.update p f, toks := t } := by
  have e : (s.heap.update p f).get? p = some { cls := .type "list", data := .seq its'.toArray n' } := by
    rw [Heap.get?_update_self f ho (by rw [hf] <;> rfl), hf]
  refine I.write (x := p) (e := p) (by rw [h]; trivial) (.inl rfl) (fun b u hb q => (Heap.get?_update_other _ _ (Ne.symm hb)).trans q) ⟨_, e⟩ ?_
  exact ⟨hz, its', n', r, e⟩
def rSetL : V → V → V → Hp → (Hp → Prop) → Prop := fun o i v H Q => ∃ p xs k j, o = .ref p ∧ i = .int k ∧ H p = some (.lst xs) ∧ ixN xs.length k = some j ∧ Q (upd H p (.lst (xs.set j v)))
theorem set_list : PSet X rSetL := by
  intro pins s σ H o i v ov iv u Q I ro ri rv h
  obtain ⟨p, xs, k, j, rfl, rfl, hp, hj, q⟩ := h
  cases ro
  obtain ⟨t, rfl⟩ := ri
  obtain ⟨its, n, r, ho, hz⟩ := I.lst hp
  obtain ⟨h1, h2, h3, h4⟩ := ixN_seq hj
  have hl := r.length
  have hn := line63
  have I' : Inv X pins σ (upd H p (.lst (xs.set j v))) { s with heap := s.heap.update p (Obj.mapSeq (·.setIfInBounds j u)) } :=
    I.lstUpd hp ho (mapSeq_set its n j u) (r.set rv j) (by rw [List.length_set]; exact hz) s.toks
  by_cases h0 : 0 ≤ k
  · have hk : k.toNat = j := by
      rw [seqIndex_of h0 h4] at h1
      exact Option.some.inj h1
    exact PySem.W.ki_setAt ho h0 (by omega) (by rw [List.size_toArray, ← hl]; exact h4) (by rw [hk]; exact ⟨_, I', q⟩)
  · have hk : (k + (its.toArray.size : Int)).toNat = j := by
      rw [seqIndex_neg (by omega) h3] at h1
      rw [List.size_toArray, ← hl]
      exact Option.some.inj h1
    exact PySem.W.ki_setBack ho (by omega) (by rw [List.size_toArray, ← hl]; exact h3) (by omega) (by rw [hk]; exact ⟨_, I', q⟩)
theorem slice_bounds (lo hi : Option Int) (n : Nat) : (sliceBounds lo hi none n).1 = ((HT.sIx n 0 lo : Nat) : Int) ∧ (sliceBounds lo hi none n).2.1 = ((HT.sIx n n hi : Nat) : Int) ∧ (sliceBounds lo hi none n).2.2 = 1 := by
  refine ⟨?_, ?_, rfl⟩
  · cases lo with
    | none => simp [sliceBounds, HT.sIx]
    | some i =>
      simp only [sliceBounds, HT.sIx, Option.getD_none, show (1 : Int) > 0 by decide, if_true]
      by_cases h : i < 0
      · simp only [h, if_true] <;> omega
      · simp only [h, if_false] <;> omega
  · cases hi with
    | none => simp [sliceBounds, HT.sIx]
    | some i =>
      simp only [sliceBounds, HT.sIx, Option.getD_none, show (1 : Int) > 0 by decide, if_true]
      by_cases h : i < 0
      · simp only [h, if_true] <;> omega
      · simp only [h, if_false] <;> omega
theorem slicePick_cut (its : List Value) (lo hi : Option Int) : slicePick its.toArray lo hi none = ((its.drop (HT.sIx its.length 0 lo)).take (HT.sIx its.length its.length hi - HT.sIx its.length 0 lo)).toArray := by
  obtain ⟨h1, h2, h3⟩ := slice_bounds lo hi its.toArray.size
  unfold slicePick
  rw [h1, h2, h3]
  simp only [sliceRange_one, pick_run, List.size_toArray] <;> rfl
def rSlL (K : PySem.W.Frag) : V → Option Int → Option Int → Hp → VK → Prop := fun x lo hi H Q => ∃ a xs, x = .ref a ∧ SqL K H a xs ∧ ∀ p, H p = none → Q (.ref p) (upd H p (.lst (cutV xs lo hi)))
theorem sl_list : SlR X (rSlL X.K) := by
  intro pins s σ H x v vl vu lo hi sl Q I rx hs pl pu h
  obtain ⟨a, xs, rfl, hx, q⟩ := h
  cases rx
  obtain ⟨its, r, ht, hz⟩ := I.list hx
  have hlen := r.length
  refine ⟨"list", _, slot_list_getitem.lookup, ht.isList.typeIs, ?_⟩
  refine wpAny_getItem_list_slice ht.isList hs pl pu .none (by simp) ?_ (by rw [List.size_toArray] <;> omega)
  rw [slicePick_cut, ← hlen]
  refine ⟨.ref s.heap.objs.size, _, I.laid (t' := s.toks) (o := .lst (cutV xs lo hi)) (fun b ob q => Heap.get?_push_of_some _ q) (Nat.le_refl _) ?_, rfl, q _ (I.hok.fresh (Nat.le_refl _))⟩
  exact ⟨Nat.le_trans (cutV_length xs lo hi) hz, _, 0, (r.drop (HT.sIx xs.length 0 lo)).take (HT.sIx xs.length xs.length hi - HT.sIx xs.length 0 lo), Heap.get?_push_size _ rfl⟩
def flatV : V → Bool
  | .non => true
  | .bl _ => true
  | .int _ => true
  | .str _ => true
  | _ => false
def eqV : V → V → Bool
  | .non, .non => true
  | .bl a, .bl b => a == b
  | .bl a, .int b => (if a then 1 else 0) == b
  | .int a, .bl b => a == (if b then 1 else 0)
  | .int a, .int b => a == b
  | .str a, .str b => a == b
  | _, _ => false
theorem eqAt_V {A : Around} {s : Shared} {y x : V} {u v : Value} (ry : RelV y u) (rx : RelV x v) (fy : flatV y = true) (fx : flatV x = true) : SeqAt.EqAt A s u v (eqV y x) := by
  cases y with
  | non =>
    cases ry
    cases x with
    | non => cases rx; exact SeqAt.EqAt.same _
    | bl b => cases rx; exact SeqAt.EqAt.none_bool b
    | int b => obtain ⟨t, rfl⟩ := rx; exact SeqAt.EqAt.none_int b t
    | str b => obtain ⟨t, rfl⟩ := rx; exact SeqAt.EqAt.none_str b t
    | _ => exact absurd (show false = true from fx) Bool.false_ne_true
  | bl a =>
    cases ry
    cases x with
    | non => cases rx; exact SeqAt.EqAt.bool_none a
    | bl b => cases rx; exact SeqAt.EqAt.bool_bool a b
    | int b => obtain ⟨t, rfl⟩ := rx; exact SeqAt.EqAt.bool_int a b t
    | str b => obtain ⟨t, rfl⟩ := rx; exact SeqAt.EqAt.bool_str a b t
    | _ => exact absurd (show false = true from fx) Bool.false_ne_true
  | int a =>
    obtain ⟨t', rfl⟩ := ry
    cases x with
    | non => cases rx; exact SeqAt.EqAt.int_none a t'
    | bl b => cases rx; exact SeqAt.EqAt.int_bool a t' b
    | int b => obtain ⟨t, rfl⟩ := rx; exact SeqAt.EqAt.int_int a t' b t
    | str b => obtain ⟨t, rfl⟩ := rx; exact SeqAt.EqAt.int_str a t' b t
    | _ => exact absurd (show false = true from fx) Bool.false_ne_true
  | str a =>
    obtain ⟨t', rfl⟩ := ry
    cases x with
    | non => cases rx; exact SeqAt.EqAt.str_none a t'
    | bl b => cases rx; exact SeqAt.EqAt.str_bool a t' b
    | int b => obtain ⟨t, rfl⟩ := rx; exact SeqAt.EqAt.str_int a t' b t
    | str b => obtain ⟨t, rfl⟩ := rx; exact SeqAt.EqAt.str_str a t' b t
    | _ => exact absurd (show false = true from fx) Bool.false_ne_true
  | _ => exact absurd (show false = true from fy) Bool.false_ne_true
def eqU (x : V) (u : Value) : Bool := match u with
  | .none => eqV .non x
  | .bool b => eqV (.bl b) x
  | .int i _ => eqV (.int i) x
  | .str z _ => eqV (.str z) x
  | _ => false
theorem eqU_of {x y : V} {u : Value} (r : RelV y u) (f : flatV y = true) : eqU x u = eqV y x := by
  cases y with
  | non => cases r; rfl
  | bl b => cases r; rfl
  | int i => obtain ⟨t, rfl⟩ := r; rfl
  | str z => obtain ⟨t, rfl⟩ := r; rfl
  | _ => exact absurd (show false = true from f) Bool.false_ne_true
theorem mem_eqAt {A : Around} {s : Shared} {x : V} {v : Value} (rx : RelV x v) (fx : flatV x = true) : ∀ {xs : List V} {us : List Value}, Vals xs us → xs.all flatV = true → ∀ u ∈ us, SeqAt.EqAt A s u v (eqU x u)
  | _, _, .nil, _ => fun u hu => by cases hu
  | y :: xs, u :: us, .cons r t, f => fun u' hu => by
    rw [List.all_cons, Bool.and_eq_true] at f
    rcases List.mem_cons.mp hu with rfl | hu
    · rw [eqU_of r f.1]; exact eqAt_V r rx f.1 fx
    · exact mem_eqAt rx fx t f.2 u' hu
def inV (x : V) (xs : List V) : Bool := xs.any fun y => eqV y x
def rIn (K : PySem.W.Frag) (neg : Bool) : R2 := fun x y H Q => ∃ p xs, y = .ref p ∧ (SqL K H p xs ∨ SqT K H p xs) ∧ flatV x = true ∧ xs.all flatV = true ∧ Q (.bl (if neg then !inV x xs else inV x xs)) H
theorem call_len_seq : CallR X (.builtin "len") (fun xs H Q => ∃ p ys, xs = [.ref p] ∧ (SqL X.K H p ys ∨ SqT X.K H p ys) ∧ Q (.int ys.length) H) := by
  intro pins s σ H xs us Q I r h
  obtain ⟨p, ys, rfl, hq, q⟩ := h
  obtain ⟨u, rfl, rx⟩ := vals1 r
  cases rx
  have hn := line63
  rcases hq with hq | hq
  · obtain ⟨its, r', pl, hz⟩ := I.list hq
    have hlen := r'.length
    exact Calls.call_len_list pl.isList (by simp only [List.size_toArray] <;> omega) ⟨.int ys.length, H, I.tok _, ⟨s.toks + 1, by rw [List.size_toArray, hlen]⟩, q⟩
  · obtain ⟨its, r', pl, hz⟩ := I.tuple hq
    have hlen := r'.length
    exact len_tuple pl (by simp only [List.size_toArray] <;> omega) ⟨.int ys.length, H, I.tok _, ⟨s.toks + 1, by rw [List.size_toArray, hlen]⟩, q⟩
def tyV (K : PySem.W.Frag) (T : String) (x : V) (H : Hp) : Prop := match x with
  | .str _ => T = "str"
  | .int _ => T = "int"
  | .ref p => (T = "list" ∧ ∃ xs, SqL K H p xs) ∨ (T = "tuple" ∧ ∃ o, K.lookup p = some o ∧ o.cls = .type "tuple" ∧ o.dict = none) ∨
      (T = "dict" ∧ ((∃ kvs, H p = some (.dK kvs)) ∨ ∃ kvs, H p = some (.dT kvs))) ∨ (T = "set" ∧ ∃ S n, H p = some (.set S n))
  | _ => False
theorem tyV_is {pins : List (Addr × Obj)} {σ : St} {H : Hp} {s : Shared} {T : String} {x : V} {v : Value} (I : Inv X pins σ H s) (r : RelV x v) (ty : tyV X.K T x H) :
    s.TypeIs v T ∧ ∀ a, v = .ref a → ∃ ob, s.heap.get? a = some ob ∧ ob.dict = none := by
  cases x with
  | str z =>
    obtain ⟨t, rfl⟩ := r
    cases (show T = "str" from ty)
    exact ⟨typeIs_str s z t, fun _ e => nomatch e⟩
  | int i =>
    obtain ⟨t, rfl⟩ := r
    cases (show T = "int" from ty)
    exact ⟨typeIs_int s i t, fun _ e => nomatch e⟩
  | ref p =>
    cases r
    rcases ty with ⟨rfl, xs, hq⟩ | ⟨rfl, o, hk, hc, hd⟩ | ⟨rfl, hk⟩ | ⟨rfl, S, n, hk⟩
    · obtain ⟨its, _, pl, _⟩ := I.list hq
      refine ⟨pl.isList.typeIs, fun a e => ?_⟩
      cases e
      obtain ⟨o, n, e, c, hd, _⟩ := pl
      exact ⟨o, e, hd⟩
    · refine ⟨⟨o, I.kIn p o hk, hc⟩, fun a e => ?_⟩
      cases e
      exact ⟨o, I.kIn _ o hk, hd⟩
    · have z : ∃ o, s.heap.get? p = some o ∧ o.ExactDict := by
        rcases hk with ⟨kvs, hk⟩ | ⟨kvs, hk⟩
        · obtain ⟨_, _, _, _, o, _, _, e, ex, _⟩ := I.hok p _ hk
          exact ⟨o, e, ex⟩
        · obtain ⟨_, _, _, _, o, _, _, e, ex, _⟩ := I.hok p _ hk
          exact ⟨o, e, ex⟩
      obtain ⟨o, e, ex⟩ := z
      refine ⟨⟨o, e, ex.1⟩, fun a e2 => ?_⟩
      cases e2
      exact ⟨o, e, ex.2.1⟩
    · obtain ⟨o, _, _, _, e, ex, _⟩ := I.hok p _ hk
      refine ⟨⟨o, e, ex.1⟩, fun a e2 => ?_⟩
      cases e2
      exact ⟨o, e, ex.2.1⟩
  | _ => exact False.elim ty
def tBM0 (K : PySem.W.Frag) (T : String) (r : V → List V → Hp → VK → Prop) (to : TE) : TE := fun σ H Q => to σ H fun x H1 => tyV K T x H1 ∧ r x [] H1 Q
def tBM (K : PySem.W.Frag) (T : String) (r : V → List V → Hp → VK → Prop) (to : TE) (t : TA) : TE := fun σ H Q => to σ H fun x H1 => tyV K T x H1 ∧ t σ H1 fun xs H2 => r x xs H2 Q
variable {o e : Expr} {es : List Expr} {to : TE} {t : TA} {name : Str} {apos cpos : Pos} {T id : String} {r : V → List V → Hp → VK → Prop}
theorem pe_bm (pa : PlainAttrs T) (slot : Slot T name id) (hty : typeOf (.builtin id) = pure (.type "method_descriptor")) (hm : MtR X id r) (ho : PE X o to) (ha : PA X (e :: es) t)
    (hbase : attributeBase o name X.env (eval o X.env) = eval o X.env := by rfl)
    (hfew : ((backTo cpos (starEach (e :: es) X.env)).all (fun x => !x.1) && (backToKw cpos (keywordEach [] X.env)).all (fun x => x.1.isSome)
      && decide ((e :: es).length + ([] : List Keyword).length + (if ([] : List Keyword).isEmpty then 0 else 1) < 30)) = true := by rfl)
    (hline : (apos.endLine == cpos.line) = true := by rfl) (hs : starEach (e :: es) X.env = (false, eval e X.env) :: starEach es X.env := by rfl) (hplain : (backTo cpos (starEach es X.env)).any (·.1) = false := by rfl) :
    PE X (.Call (.Attribute o name apos) (e :: es) [] cpos) (tBM X.K T r to t) := by
  constructor
  intro pins s σ H Q I h
  refine wpAny_Call_method_late hbase hfew hline rfl (thn (ho pins s σ H _ I h) fun v s1 ⟨x, H1, I1, r1, ty, q1⟩ => ?_)
  obtain ⟨h1, h2⟩ := tyV_is I1 r1 ty
  refine ⟨T, id, pa, slot, hty, h1, h2, ?_⟩
  have hA := ha cpos pins s1 σ H1 _ I1 q1
  rw [hs] at hA ⊢
  refine Calls.callWith_builtin (by show (false || (backTo cpos (starEach es X.env)).any (·.1)) = false; rw [hplain] <;> rfl) (Calls.evalArgs_plain ?_)
  exact thn hA fun us s2 ⟨vs, H2, I2, r2, q2⟩ => hm pins s2 σ H2 x vs v us Q I2 r1 r2 q2
/- xs.append(e), list.index on a module's tuple .. are MtR facts of 06m -/
end
end L2
namespace L2
open PySem PySem.Spec PyProof.Rows
def MtM (X : Cx) (id : String) (r : V → List V → Hp → VK → Prop) : Prop :=
  ∀ (pins : List (Addr × Obj)) (s : Shared) (σ : St) (H : Hp) (x : V) (xs : List V) (v : Value) (us : List Value) (Q : VK), Inv X pins σ H s → RelV x v → Vals xs us → r x xs H Q →
    wpAny (model X.prog X.w) X.A (call (.builtin id) (v :: us)) (EP X pins σ Q) X.xe s
theorem Vals.one : ∀ {x : V} {us : List Value}, Vals [x] us → ∃ u, us = [u] ∧ RelV x u
  | _, _, .cons r .nil => ⟨_, rfl, r⟩
theorem Vals.zero : ∀ {us : List Value}, Vals [] us → us = []
  | _, .nil => rfl
theorem Vals.dropLast {xs : List V} {us : List Value} (h : Vals xs us) : Vals xs.dropLast us.dropLast := by
  induction h with
  | nil => exact .nil
  | cons r t ih =>
    cases t with
    | nil => exact .nil
    | cons q t' => exact .cons r ih
theorem Vals.eraseIdx : ∀ {xs : List V} {us : List Value} (i : Nat), Vals xs us → Vals (xs.eraseIdx i) (us.eraseIdx i)
  | _, _, _, .nil => .nil
  | _, _, 0, .cons _ t => t
  | _, _, i + 1, .cons r t => .cons r (Vals.eraseIdx i t)
theorem Vals.reverse {xs : List V} {us : List Value} (h : Vals xs us) : Vals xs.reverse us.reverse := by
  induction h with
  | nil => exact .nil
  | cons r t ih => rw [List.reverse_cons, List.reverse_cons]; exact Vals.append ih (.cons r .nil)
theorem Vals.rep {xs : List V} {us : List Value} (h : Vals xs us) : ∀ k : Nat, Vals (List.replicate k xs).flatten (List.replicate k us).flatten
  | 0 => .nil
  | k + 1 => by
    rw [List.replicate_succ, List.replicate_succ, List.flatten_cons, List.flatten_cons]
    exact Vals.append h (Vals.rep h k)
theorem foldl_rep (its : List Value) : ∀ (k : Nat) (acc : List Value),
    List.foldl (fun x1 x2 => x1 ++ x2) acc.toArray (List.replicate k its.toArray) = (acc ++ (List.replicate k its).flatten).toArray
  | 0, acc => by simp
  | k + 1, acc => by
    have e : acc.toArray ++ its.toArray = (acc ++ its).toArray := by simp
    have e2 : (acc ++ its) ++ (List.replicate k its).flatten = acc ++ (List.replicate (k + 1) its).flatten := by
      rw [List.replicate_succ, List.flatten_cons, List.append_assoc]
    rw [← e2, ← foldl_rep its k (acc ++ its), ← e, List.replicate_succ, List.foldl_cons]
section
variable {X : Cx} {pins : List (Addr × Obj)} {σ : St} {H : Hp} {s : Shared} {l b : Addr} {xs ys zs : List V}
theorem Inv.lset {its its' : List Value} {n : Nat} {f : Array Value → Array Value} {t' : Nat} (I : Inv X pins σ H s) (hH : H l = some (.lst xs))
    (e : s.heap.get? l = some { cls := .type "list", data := .seq its.toArray n }) (hf : f its.toArray = its'.toArray) (hv : Vals ys its') (hz : ys.length ≤ sizeLine) :
    Inv X pins σ (upd H l (.lst ys)) { s with heap := s.heap.update l (Obj.mapSeq f), toks := t' } := by
  have q := PySem.IsL.update e f
  rw [hf] at q
  refine I.write (x := l) (e := l) (by rw [hH]; exact trivial) (.inl rfl) (fun b' u hb hu => (Heap.get?_update_other s.heap (Obj.mapSeq f) (Ne.symm hb)).trans hu) ⟨_, q⟩ ?_
  exact ⟨hz, its', _, hv, q⟩
theorem Inv.lnew {its : List Value} {t' : Nat} (I : Inv X pins σ H s) (hv : Vals ys its) (hz : ys.length ≤ sizeLine) :
    Inv X pins σ (upd H s.heap.objs.size (.lst ys)) { s with heap := s.heap.push { cls := .type "list", data := .seq its.toArray }, toks := t' } :=
  I.laid (fun _ _ q => Heap.get?_push_of_some _ q) (Nat.le_refl _) ⟨hz, its, 0, hv, Heap.get?_push_size _ rfl⟩
theorem Inv.fresh (I : Inv X pins σ H s) : H s.heap.objs.size = none := I.hok.fresh (Nat.le_refl _)
theorem Inv.lstM (I : Inv X pins σ H s) (hH : H l = some (.lst xs)) : xs.length ≤ sizeLine ∧ ∃ (its : List Value) (n : Nat), Vals xs its ∧ xs.length = its.length ∧ s.heap.get? l = some { cls := .type "list", data := .seq its.toArray n } := by
  obtain ⟨z, its, n, r, e⟩ := I.hok l _ hH
  exact ⟨z, its, n, r, r.length, e⟩
theorem notLongL {n : Nat} (h : n ≤ sizeLine) : Builtin.List.listTooLong n = false := by
  unfold Builtin.List.listTooLong
  exact decide_eq_false (by omega)
end
section
variable {X : Cx}
def rAppend : V → List V → Hp → VK → Prop := fun x vs H Q => ∃ l xs y, x = .ref l ∧ vs = [y] ∧ H l = some (.lst xs) ∧ xs.length < sizeLine ∧ Q .non (upd H l (.lst (xs ++ [y])))
theorem mt_append : MtM X "list.append" rAppend := by
  intro pins s σ H x vs v us Q I rx rv h
  obtain ⟨l, xs, y, rfl, rfl, hH, hz, q⟩ := h
  cases rx
  obtain ⟨u, rfl, ru⟩ := rv.one
  obtain ⟨z, its, n, r, hl, e⟩ := I.lstM hH
  refine call_meets F.slot_list_append ⟨_, e, rfl⟩ F.entry_list_append (F.args_list_append_2 _ _) (PySem.list_append l its.toArray n u (by rw [List.size_toArray]; omega)) ⟨e, ?_⟩
  refine ⟨.non, _, I.lset (its' := its ++ [u]) hH e (by simp) (r.append (.cons ru .nil)) ?_, rfl, q⟩
  rw [List.length_append, List.length_singleton]
  omega
def rExtend : V → List V → Hp → VK → Prop := fun x vs H Q => ∃ l b xs zs, x = .ref l ∧ vs = [.ref b] ∧ H l = some (.lst xs) ∧ H b = some (.lst zs) ∧ xs.length + zs.length ≤ sizeLine ∧ Q .non (upd H l (.lst (xs ++ zs)))
def rPop : V → List V → Hp → VK → Prop := fun x vs H Q => ∃ l xs y, x = .ref l ∧ vs = [] ∧ H l = some (.lst xs) ∧ xs[xs.length - 1]? = some y ∧ Q y (upd H l (.lst xs.dropLast))
def rPopAt : V → List V → Hp → VK → Prop := fun x vs H Q => ∃ l xs i k y, x = .ref l ∧ vs = [.int i] ∧ H l = some (.lst xs) ∧ -(2 ^ 63) ≤ i ∧ i < 2 ^ 63 ∧ seqIndex? i xs.length = some k ∧ xs[k]? = some y ∧ Q y (upd H l (.lst (xs.eraseIdx k)))
def rReverse : V → List V → Hp → VK → Prop := fun x vs H Q => ∃ l xs, x = .ref l ∧ vs = [] ∧ H l = some (.lst xs) ∧ Q .non (upd H l (.lst xs.reverse))
def rClear : V → List V → Hp → VK → Prop := fun x vs H Q => ∃ l xs, x = .ref l ∧ vs = [] ∧ H l = some (.lst xs) ∧ Q .non (upd H l (.lst []))
def rCat : R2 := fun x y H Q => ∃ l b xs zs, x = .ref l ∧ y = .ref b ∧ H l = some (.lst xs) ∧ H b = some (.lst zs) ∧ xs.length + zs.length ≤ sizeLine ∧ ∀ p, H p = none → Q (.ref p) (upd H p (.lst (xs ++ zs)))
theorem op_cat : OpR X (binaryOp .Add) rCat := by
  intro pins s σ H x y v u Q I rx ry h
  obtain ⟨l, b, xs, zs, rfl, rfl, hH, hB, hz, q⟩ := h
  cases rx
  cases ry
  obtain ⟨z, its, n, r, hl, e⟩ := I.lstM hH
  obtain ⟨z2, its2, n2, r2, hl2, e2⟩ := I.lstM hB
  refine PySem.P.add_list e e2 ?_ (by rw [List.size_toArray, List.size_toArray]; omega)
  have ea : its.toArray ++ its2.toArray = (its ++ its2).toArray := by simp
  rw [ea]
  exact ⟨.ref _, _, I.lnew (t' := s.toks) (r.append r2) (by rw [List.length_append]; omega), rfl, q _ I.fresh⟩
def rRep : R2 := fun x y H Q => ∃ l k xs, x = .ref l ∧ y = .int k ∧ H l = some (.lst xs) ∧ -(2 ^ 63) ≤ k ∧ k < 2 ^ 63 ∧ xs.length * k.toNat ≤ sizeLine ∧
  ∀ p, H p = none → Q (.ref p) (upd H p (.lst (List.replicate k.toNat xs).flatten))
theorem len_rep {α : Type} (xs : List α) (k : Nat) : (List.replicate k xs).flatten.length = k * xs.length := by
  induction k with
  | zero => simp
  | succ k ih => rw [List.replicate_succ, List.flatten_cons, List.length_append, ih, Nat.succ_mul, Nat.add_comm]
theorem op_rep : OpR X (binaryOp .Mult) rRep := by
  intro pins s σ H x y v u Q I rx ry h
  obtain ⟨l, k, xs, rfl, rfl, hH, h1, h2, hz, q⟩ := h
  cases rx
  obtain ⟨t, rfl⟩ := ry
  obtain ⟨z, its, n, r, hl, e⟩ := I.lstM hH
  have hlen : its.toArray.size * k.toNat ≤ sizeLine := by rw [List.size_toArray, ← hl]; exact hz
  have hcap : ¬ its.toArray.size * k.toNat > (2 ^ 63 - 1) / 8 := by
    have : (sizeLine : Nat) ≤ (2 ^ 63 - 1) / 8 := by decide
    omega
  have hfit : ¬ (!Builtin.List.listFitsIndex k) = true := by
    rw [fitsIndex_both h1 h2]
    exact Bool.false_ne_true
  have hlong : ¬ Builtin.List.listTooLong (its.toArray.size * k.toNat) = true := by
    rw [notLongL hlen]
    exact Bool.false_ne_true
  have hnew : List.foldl (fun x1 x2 => x1 ++ x2) #[] (List.replicate (if its.toArray.isEmpty = true then 0 else k.toNat) its.toArray) = (List.replicate k.toNat its).flatten.toArray := by
    have f0 : ∀ m : Nat, List.foldl (fun x1 x2 => x1 ++ x2) #[] (List.replicate m its.toArray) = (List.replicate m its).flatten.toArray := fun m => by
      have := foldl_rep its m []
      rw [List.nil_append] at this
      exact this
    rw [f0]
    cases its with
    | nil => simp
    | cons a r' => rw [if_neg (by simp)]
  refine wpAny_binaryOp_repeat_ref (T := "list") (U := "int") (by decide) ⟨_, e, rfl⟩ (fun s' => typeIs_int s' k t) noFill_list_mul F.fills_int_mul F.slot_int_rmul repeat_list F.slot_int_index.lookup
    (call_meets F.slot_int_rmul (typeIs_int s k t) F.entry_int_rmul (F.args_int_rmul_2 _ _) (int___rmul___int_list k t l its.toArray n)
      ⟨e, rfl, ⟨_, e, rfl⟩, call_meets F.slot_list_mul ⟨_, e, rfl⟩ F.entry_list_mul (F.args_list_mul_2 _ _) (AutoListH.list___mul___list_int_3 l its.toArray n k t hfit hcap hlong) ⟨e, ?_⟩⟩)
  rw [hnew]
  exact ⟨.ref _, _, I.lnew (t' := s.toks) (r.rep k.toNat) (by rw [len_rep, Nat.mul_comm]; exact hz), rfl, q _ I.fresh⟩
end
section
variable {prog : Program} {w : World} {A : Around} {E : Value → Shared → Prop} {s : Shared}
end
section
variable {X : Cx}
end
end L2
namespace Att
open PySem PySem.W PySem.Calls PyProof.Rows
theorem ints_of_wellAll {P : Params} {h : Heap} : ∀ (ns : List Int) (vs : List Value), WellAll P h vs (ns.map WData.int) → IntsAre vs ns := by
  intro ns
  induction ns with
  | nil =>
    intro vs w
    rw [List.map_nil] at w
    cases w
    exact .nil
  | cons n ns ih =>
    intro vs w
    rw [List.map_cons] at w
    cases w with
    | cons a b =>
      cases a
      exact .cons _ _ (ih _ b)
theorem script_of {l : OpenLaw} {n : Nat} (hn : l.most = some n) {P : Params} {h : Heap} {args : List WData} {vals : List Value}
    (hpre : l.row.toRowW.claim.pre args = true) (hwl : WellAll P h vals args) :
    ∃ a vs ns, vals = [Value.ref a] ∧ args = [WData.list (ns.map WData.int)] ∧ h.get? a = some { cls := .type "list", data := .seq vs.toArray } ∧ IntsAre vs ns ∧ ns.length ≤ n := by
  have hsh : WShape.hasAll [] args [.list .int] = true := (pre_splitW hpre).1
  have hc : l.pre.holds [] { args := args } = true := (pre_splitW hpre).2
  obtain ⟨d, r, rfl, h1, h2⟩ := hasAllW_cons hsh
  obtain rfl := hasAllW_nil h2
  obtain ⟨xs, rfl, h3⟩ := hasW_list h1
  obtain ⟨ns, rfl⟩ := items_int h3
  have hlen : ns.length ≤ n := by
    unfold OpenLaw.pre at hc
    have h4 : (WTm.not (.lt (.lit (.int (n : Int))) (.len (.arg 0)))).holds [] { args := [.list (ns.map .int)] } = true := by
      have h4 := (holds_andW hc).1
      rw [hn] at h4
      exact h4
    have h5 := condW_of h4 (w_not (w_lt w_lit (w_len_list (w_arg rfl))))
    rw [List.length_map] at h5
    refine Nat.le_of_not_lt fun q => ?_
    have q' : (n : Int) < ((ns.length : Nat) : Int) := by omega
    first
      | (rw [decide_eq_true q'] at h5; exact absurd h5 (by decide))
      | (simp at h5; omega)
  cases hwl with
  | cons w1 w2 =>
    cases w2
    cases w1 with
    | list ho hall => exact ⟨_, _, ns, rfl, rfl, ho, ints_of_wellAll ns _ hall, hlen⟩
theorem post_true (l : OpenLaw) (args : List WData) : l.row.toRowW.claim.post args (.bool true) args = true :=
  postW_of (r := l.row.toRowW) (X := (true == true))
    (show WShape.has [] (.bool true) .bool = true by first | rfl | decide | simp [WShape.has, WShape.arms, WShape.armsAll])
    (show (WTm.eq .res (.lit (.bool true))).value [] { args := args, res := some (.bool true), after := args } = some (.bool (true == true)) from w_eq_bool (w_res rfl) w_lit) rfl
theorem attach_call {l : OpenLaw} {n : Nat} {q : Program} {loose : List Str} {XP : (Str → Option Value) → Heap → Prop} {YP : World → Heap → Prop} {d : DefRec}
    (hn : l.most = some n) (hdf : d.params.defaults = [])
    (call : ∀ (w : World) (s₀ s₁ : Shared) (mg mb : Str → Option Value) (fa : Addr) (o : Obj) (pm cd doc : Value) (a : Addr) (vs : List Value) (ns : List Int),
      Ground q loose [] XP w s₀ mg mb s₁.heap → YP w s₁.heap →
      s₁.heap.get? fa = some o → o.data = .func (docDef d.name d.params d.body d.scope pm cd doc) → s₁.heap.CodeRec cd d.name → mg d.name = some (.ref fa) →
      s₁.heap.get? a = some { cls := .type "list", data := .seq vs.toArray } → IntsAre vs ns → ns.length ≤ n → s₁.gens = #[] →
      codeAny (model l.prog w) callerA (.call (.ref fa) ⟨[.ref a], []⟩) (fun r s' => r = .ok (.ret (.bool true)) ∧ OldK s₁.heap s'.heap ∧ s'.os = s₁.os ∧ AllBare s'.gens) s₁) :
    WalkO q loose XP YP l.row.toRowW d [] (fun f vs => PySem.call f vs) := by
  intro w s₀ s₁ mg mb G Y fa o pm cd doc dV kV ho hd hcd hD hmg hg args vals as hpre hlay hrd hwl hlo
  obtain rfl : dV = .none := Dflts.none hD hdf
  obtain rfl : kV = .none := Dflts.noKw hD
  obtain ⟨a, vs, ns, rfl, rfl, hobj, hints, hlen⟩ := script_of hn hpre hwl
  refine enter_call (codeAny_mono (call w s₀ s₁ mg mb fa o pm cd doc a vs ns G Y ho (fd_plain hd) hcd hmg hobj hints hlen hg) fun r s' hq => ?_)
  obtain ⟨rfl, h2, h3, h4⟩ := hq
  exact ⟨.inl ⟨.bool true, .bool true, [], rfl, fun _ => rfl, .bool true, post_true l _, fun _ => ⟨List.Pairwise.nil, fun _ hm => (nomatch hm)⟩⟩, h2, h3, h4⟩
section
variable {prog : Program} {w : World} {A : Around} {E : Value → Shared → Prop} {s : Shared} {K : Frag}
def noObjs (h : Heap) : Heap := { h with objs := #[] }
def ledger (h : Heap) (L d : Addr) : List (Addr × Obj) := (List.range h.objs.size).filterMap fun a => if a = L ∨ a = d then none else (h.get? a).map fun o => (a, o)
end
end Att
namespace L2
open PySem PySem.Spec PyProof.Rows
theorem vals_ints : ∀ {vs : List Value} {ns : List Int}, IntsAre vs ns → Vals (ns.map V.int) vs
  | _, _, .nil => .nil
  | _, _, .cons n t h => .cons ⟨t, rfl⟩ (vals_ints h)
def Only (H : Hp) : Prop := ∀ b, H b = none ∨ ∃ o xs, H b = some (.frz o (.lst xs))
theorem law_call {P : Program} {w : World} {K : PySem.W.Frag} {mg mb : Str → Option Value} {CX : CXT} {c : Bool} {k : Nat} {fa a : Addr} {fd : FuncData} {x : Str} {sp : Sp} {s₁ : Shared} {vs : List Value} {ns : List Int}
    (KX : K.In s₁.heap) (hns : s₁.heap.Ns mainGlobals mg) (hb : s₁.heap.Ns builtinsNs mb) (hbb : ∀ x : Str, x ≠ "__name__" → mb x = bootBuiltins x) (hlim : s₁.heap.NoLimit) (hg : s₁.gens = #[])
    (ha : s₁.heap.get? a = some { cls := .type "list", data := .seq vs.toArray }) (hi : IntsAre vs ns) (hl : ns.length ≤ sizeLine) (hr : Room k callerA)
    (F : ∀ base : Heap, K.In base → base.Ns mainGlobals mg → FnOk P w K mg base CX c k fa fd [x] sp) (hbind : ∀ (s : Shared) (u : Value), BindsTo s fd ⟨[u], []⟩ [(x, u)])
    (hsp : ∀ H : Hp, Only H → SqL K H a (ns.map V.int) → sp [.ref a] H (fun v _ => v = .bl true) fun _ _ _ => False)
    (hCX : ∀ H e s', CX [] H s₁ (fun _ _ _ => False) e s' → False) :
    codeAny (model P w) callerA (.call (.ref fa) ⟨[.ref a], []⟩) (fun r s' => r = .ok (.ret (.bool true)) ∧ OldK s₁.heap s'.heap ∧ s'.os = s₁.os ∧ AllBare s'.gens) s₁ := by
  have rv := vals_ints hi
  have lenV := hi.length
  have core : ∀ H : Hp, Only H → SqL K H a (ns.map V.int) → HOk P w H s₁.heap → (∀ b, H b ≠ none → b = a) → (H a ≠ none → K.lookup a = none) →
      codeAny (model P w) callerA (.call (.ref fa) ⟨[.ref a], []⟩) (fun r s' => r = .ok (.ret (.bool true)) ∧ OldK s₁.heap s'.heap ∧ s'.os = s₁.os ∧ AllBare s'.gens) s₁ := by
    intro H hO hS hok hA hK
    have base_of : ∀ {b : Addr} {o : Obj}, s₁.heap.get? b = some o → H b = none → (hidT s₁.heap H).get? b = some o := fun e n => hidT_get e n
    have noA : ∀ {b : Addr} {o : Obj} {es : Array DictEntry} {ep : Nat}, s₁.heap.get? b = some o → o.data = .dict es ep → H b = none := fun {b o es ep} e d => by
      cases q : H b with
      | none => rfl
      | some u =>
        have e' : b = a := hA b (by rw [q]; simp)
        subst e'
        rw [ha] at e; cases e
        have d' : Data.seq vs.toArray _ = Data.dict es ep := d
        cases d'
    have nsK : ∀ {b : Addr} {m : Str → Option Value}, s₁.heap.Ns b m → (hidT s₁.heap H).Ns b m := fun {b m} ⟨o, es, ep, e, d, r⟩ => ⟨o, es, ep, base_of e (noA e d), d, r⟩
    have hKb : K.In (hidT s₁.heap H) := fun b o e => base_of (KX b o e) (by
      cases q : H b with
      | none => rfl
      | some u =>
        have e' : b = a := hA b (by rw [q]; simp)
        subst e'
        rw [hK (by rw [q]; simp)] at e; cases e)
    have hM : Mod K mg (hidT s₁.heap H) := ⟨hKb, nsK hns, ⟨mb, nsK hb, hbb⟩, let ⟨mc, h1, h2⟩ := hlim; ⟨mc, nsK h1, h2⟩⟩
    have e0 : Env0 P w K mg (hidT s₁.heap H) callerA [] s₁ H := ⟨rfl, hM, fun b o e => of_hidT e, Nat.le_of_eq (hidT_size _ _), trivial, fun b hb => absurd (show b ∈ ([] : List Addr) from hb) (by simp), hok, .of_eq hg⟩
    refine codeAny_mono ((F _ hKb (nsK hns)).run callerA [] s₁ H ⟨[.ref a], []⟩ [.ref a] [.ref a] _ _ none (fun _ => rfl) (.inl rfl) (fun _ _ z => nomatch z) hr e0 (hbind s₁ (.ref a)) (.cons rfl .nil) (hsp H hO hS)) fun r s' h => ?_
    cases r with
    | error e => exact (hCX H e s' h).elim
    | ok fl =>
      cases fl with
      | next => exact False.elim h
      | brk => exact False.elim h
      | cont => exact False.elim h
      | ret u =>
        obtain ⟨v, H', os, bare, un, hok', r', q⟩ := h
        have q' : v = .bl true := q
        subst q'
        obtain rfl : u = Value.bool true := r'
        refine ⟨rfl, OldK.of_keep fun b o e => ?_, os, bare⟩
        cases q : H b with
        | none => exact un.keep b o e q (by intro z; exact absurd (show b ∈ ([] : List Addr) from z) (by simp)) (by simp)
        | some u =>
          rcases hO b with z | ⟨ob, xs, z⟩
          · rw [q] at z; cases z
          · have z2 := un.frzs b ob _ z
            obtain ⟨e1, _⟩ := hok b _ z
            obtain ⟨e2, _⟩ := hok' b _ z2
            rw [e] at e1; cases e1
            exact e2
  cases hk : K.lookup a with
  | some o =>
    have e := KX a o hk
    rw [ha] at e
    cases e
    refine core (fun _ => none) (fun _ => .inl rfl) (.inr ⟨_, vs.toArray, _, hk, rfl, rfl, rfl, by rw [List.size_toArray, lenV]; exact hl, by simpa using rv⟩) (fun b u z => by have z' : (none : Option HO) = some u := z; cases z') (fun b z => absurd rfl z) fun z => absurd rfl z
  | none =>
    refine core (fun b => if b = a then some (.frz { cls := .type "list", data := .seq vs.toArray } (.lst (ns.map V.int))) else none) (fun b => ?_) (.inl (.inr ⟨{ cls := .type "list", data := .seq vs.toArray }, if_pos rfl⟩)) (fun b u z => ?_) (fun b z => ?_) fun _ => hk
    · by_cases hb : b = a
      · exact .inr ⟨_, _, if_pos hb⟩
      · exact .inl (if_neg hb)
    · by_cases hb : b = a
      · have z' := (if_pos hb).symm.trans z
        cases z'
        subst hb
        exact ⟨ha, by rw [List.length_map]; exact hl, vs, _, rv, ha⟩
      · have z' := (if_neg hb).symm.trans z
        cases z'
    · by_cases hb : b = a
      · exact hb
      · exact absurd (if_neg hb) z
end L2
namespace L2
open PySem PySem.Spec PyProof.Rows
abbrev KOf {K : PySem.W.Frag} {h : Heap} (_ : K.In h) : PySem.W.Frag := K
theorem walk_of {l : PySem.W.OpenLaw} {c : Bool} {n k : Nat} {q : Program} {loose : List Str} {XP : (Str → Option Value) → Heap → Prop} {YP : World → Heap → Prop} {d : DefRec} {K : Params → PySem.W.Frag} {CX : World → CXT} {sp : World → Sp} {x : Str}
    (hn : l.most = some n) (hn2 : n ≤ sizeLine) (hdf : d.params.defaults = []) (hr : Room k callerA)
    (hY : ∀ (w : World) (h : Heap), YP w h → (K w.params).In h)
    (F : ∀ (w : World) (mg : Str → Option Value) (fa : Addr) (h : Heap), (K w.params).In h → h.Ns mainGlobals mg → mg d.name = some (.ref fa) →
      ∃ fd : FuncData, (∀ (s : Shared) (u : Value), BindsTo s fd ⟨[u], []⟩ [(x, u)]) ∧
        ∀ base : Heap, (K w.params).In base → base.Ns mainGlobals mg → FnOk l.prog w (K w.params) mg base (CX w) c k fa fd [x] (sp w))
    (hsp : ∀ (w : World) (H : Hp) (a : Addr) (ns : List Int), ns.length ≤ n → Only H → SqL (K w.params) H a (ns.map V.int) → sp w [.ref a] H (fun v _ => v = .bl true) fun _ _ _ => False)
    (hCX : ∀ (w : World) (H : Hp) (s : Shared) (e : Value) (s' : Shared), CX w [] H s (fun _ _ _ => False) e s' → False) :
    PySem.W.WalkO q loose XP YP l.row.toRowW d [] (fun f vs => PySem.call f vs) := by
  refine Att.attach_call hn hdf fun w s₀ s₁ mg mb fa o pm cd doc a vs ns G Y ho hd hcd hmg hobj hints hlen hg => ?_
  have KX := hY w _ Y
  obtain ⟨fd, hb, hF⟩ := F w mg fa _ KX G.T.g hmg
  exact law_call KX G.T.g G.T.b G.T.builtins G.T.nolimit hg hobj hints (Nat.le_trans hlen hn2) hr hF hb (fun H hO hS => hsp w H a ns hlen hO hS) fun H e s' => hCX w H s₁ e s'
end L2
/- THE LAST THEOREM (shape; LID, My.* are yours):
   My.Adr: a structure of the addresses that your layer names (classes, functions); My.Txt K t: a structure (Prop) of the equations over K;
   My.txt_mk : {K} {implicit addresses ..} (e1 : nsIn K mainGlobals "law" = some (some (.ref f))) (e2 : K.lookup f = some ⟨oc, od, .func (fnOf "law" "law" params body scope dV kV doc pm an cdv ct), sl⟩) (e3 : codeIn K cdv "law" = true) .. : ∃ t, My.Txt K t
(the tactic k_is has no namespace: write k_is) -/
namespace L2
open PySem PySem.Spec PyProof.Rows
def inClass (s : Stmt) (j : Nat) : Stmt := match s with
  | .ClassDef _ _ _ body _ _ _ _ _ _ _ => body.getD j (.Pass ⟨0, 0, 0, 0⟩)
  | _ => .Pass ⟨0, 0, 0, 0⟩
def defArgs (s : Stmt) : Arguments := match s with
  | .FunctionDef _ a _ _ _ _ _ _ _ _ => a
  | _ => { posonlyargs := [], args := [], vararg := none, kwonlyargs := [], kw_defaults := [], kwarg := none, defaults := [] }
def defBody (s : Stmt) : List Stmt := match s with
  | .FunctionDef _ _ b _ _ _ _ _ _ _ => b
  | _ => []
def defScope (s : Stmt) : Scope := match s with
  | .FunctionDef _ _ _ _ _ _ sc _ _ _ => sc
  | _ => { kind := .function, names := [], isGenerator := false, isCoroutine := false }
abbrev CX0 : CXT := fun _ _ _ _ _ _ => False
abbrev E0 : XK := fun _ _ _ => False
structure Fun (K : PySem.W.Frag) (x qual : Str) (st : Stmt) (f : Addr) (fd : FuncData) : Prop where
  ex : ∃ (oc : Value) (od : Option Addr) (kV doc pm : Value) (an : Option Addr) (cdv ct : Value) (osl : Array (Option Value)),
    fd = PySem.W.fnOf x qual (defArgs st) (defBody st) (defScope st) .none kV doc pm an cdv ct ∧ K.lookup f = some ⟨oc, od, .func fd, osl⟩ ∧ PySem.W.codeIn K cdv qual = true
  kp : PySem.W.keepIn K (.ref f) = true
section
variable {P : Program} {w : World} {K : PySem.W.Frag} {mg : Str → Option Value} {base : Heap}
theorem Fun.binds {x qual : Str} {st : Stmt} {f : Addr} {fd : FuncData} {ps : List Str} (F : Fun K x qual st f fd)
    (h : ∀ (kV doc pm : Value) (an : Option Addr) (cdv ct : Value) (us : List Value), us.length = ps.length → bindArgs (PySem.W.fnOf x qual (defArgs st) (defBody st) (defScope st) .none kV doc pm an cdv ct) ⟨us, []⟩ = pure (ps.zip us)) : Binds K fd ps [] := by
  obtain ⟨oc, od, kV, doc, pm, an, cdv, ct, osl, rfl, lk, hcd⟩ := F.ex
  exact .all (h kV doc pm an cdv ct)
theorem fun_mk {x qual : Str} {st : Stmt} {f : Addr} {oc : Value} {od an : Option Addr} {osl : Array (Option Value)} {kV doc pm cdv ct : Value} (l : K.lookup f = some ⟨oc, od, .func (PySem.W.fnOf x qual (defArgs st) (defBody st) (defScope st) .none kV doc pm an cdv ct), osl⟩)
    (c : PySem.W.codeIn K cdv qual = true) (k : PySem.W.keepIn K (.ref f) = true) : Fun K x qual st f (PySem.W.fnOf x qual (defArgs st) (defBody st) (defScope st) .none kV doc pm an cdv ct) := ⟨⟨oc, od, kV, doc, pm, an, cdv, ct, osl, rfl, l, c⟩, k⟩
end
theorem small1000 {n : Nat} (h : n ≤ 1000) : n < sizeLine := Nat.lt_of_le_of_lt h (by decide)
section
variable {X : Cx}
theorem pv (i : Nat) {x : Str} {pos : Pos} (hN : X.N[i]? = some x := by rfl) (hv : Vis X.env.scope x := by first | exact Or.inl rfl | exact Or.inr (Or.inl rfl) | exact Or.inr (Or.inr rfl)) (hd : (x == ("__debug__" : Str)) = false := by decide)
    (hcd : (x == ("__classdict__" : Str)) = false := by decide) : PE X (.Name x pos) (tVar i) := pe_var hN hv hd hcd
end
theorem iteF {A B : Prop} (h : B) : if false = true then A else B := by
  rw [if_neg Bool.false_ne_true]
  exact h
theorem iteT {A B : Prop} (h : A) : if true = true then A else B := by
  rw [if_pos rfl]
  exact h
theorem ite2 {c A B : Prop} [Decidable c] (h1 : c → A) (h2 : ¬ c → B) : if c then A else B := by
  by_cases h : c
  · rw [if_pos h]
    exact h1 h
  · rw [if_neg h]
    exact h2 h
theorem iteNS {c A B : Prop} [Decidable c] (hc : c) (h : B) : if (!decide c) = true then A else B := by
  rw [decide_eq_true hc]
  exact iteF h
def Same (H H' : Hp) : Prop := ∀ b o, H b = some o → H' b = some o
theorem Same.refl (H : Hp) : Same H H := fun _ _ h => h
theorem Same.trans {H H1 H2 : Hp} (a : Same H H1) (b : Same H1 H2) : Same H H2 := fun c o h => b c o (a c o h)
theorem Same.free {H H' : Hp} (e : Same H H') {l : Addr} (h : H' l = Option.none) : H l = Option.none := by
  cases q : H l with
  | none => rfl
  | some o =>
    rw [e l o q] at h
    cases h
theorem Same.seq {K : PySem.W.Frag} {H H' : Hp} {a : Addr} {xs : List V} (e : Same H H') (h : SqL K H a xs) : SqL K H' a xs := by
  rcases h with (h | ⟨o, h⟩) | h
  · exact .inl (.inl (e _ _ h))
  · exact .inl (.inr ⟨o, e _ _ h⟩)
  · exact .inr h
end L2
set_option Elab.async false
set_option linter.all false
set_option maxRecDepth 100000
namespace L2
open PySem PySem.Spec PyProof.Rows
section
variable {P : Program} {w : World} {H H' H1 H2 : Hp} {h h' h0 h1 h2 B : Heap} {a b : Addr} {o : HO} {fs ex : List Addr}
theorem ObjOk.there (x : ObjOk P w H h a o) : ∃ ob, h.get? a = some ob := by
  cases o with
  | lst xs => obtain ⟨_, _, _, _, e⟩ := x; exact ⟨_, e⟩
  | tup xs => obtain ⟨_, _, _, ob, e, _⟩ := x; exact ⟨_, e⟩
  | dK kvs => obtain ⟨_, _, _, _, o, _, _, e, _⟩ := x; exact ⟨_, e⟩
  | dT kvs => obtain ⟨_, _, _, _, o, _, _, e, _⟩ := x; exact ⟨_, e⟩
  | set S n => obtain ⟨o, _, _, _, e, _⟩ := x; exact ⟨_, e⟩
  | ins C dx fs => obtain ⟨_, _, _, e, _⟩ := x; exact ⟨_, e⟩
  | own y => exact x
  | xd fs => obtain ⟨_, ⟨_, _, _, e, _⟩, _⟩ := x; exact ⟨_, e⟩
  | rng lo hi => obtain ⟨_, _, _, e⟩ := x; exact ⟨_, e⟩
  | frz ob u => obtain ⟨e, _⟩ := x; exact ⟨_, e⟩
  | tbl ps => exact ⟨_, (show h.get? a = some _ from x)⟩
  | met f y => exact ⟨_, (show h.get? a = some _ from x)⟩
  | ext φ => obtain ⟨_, e, _⟩ := x; exact e
theorem Un.shrink {L : Addr} (u : Un (L :: fs) ex H H' h h') (hL : h.get? L = none) : Un fs ex H H' h h' := by
  have ne : ∀ b o, h.get? b = some o → b ≠ L := fun b o q z => by rw [z, hL] at q; cases q
  refine ⟨fun b o q n hb hx => u.keep b o q n (fun z => (List.mem_cons.mp z).elim (ne b o q) hb) hx, fun b o q n hb hx => u.slot b o q n (List.mem_cons_of_mem _ hb) hx, u.free, u.there, u.tups, u.frzs, u.tbls⟩
theorem Un.air (u : Un fs [] H H1 h0 h1) (hB1 : ∀ b o, h0.get? b = some o → b ∉ fs → ∃ o', B.get? b = some o') (s1 : B.StaysIn h1) (s2 : B.StaysIn h2) (up : h1.UpToSlots h2)
    (fr : ∀ b ∈ fs, ∃ o, h1.get? b = some o ∧ ∀ vs, o.data ≠ .fields vs) : Un fs [] H H1 h0 h2 := by
  refine ⟨fun b o q n hb hx => ?_, fun b o q n hb hx => ?_, u.free, fun b o q hx => ?_, u.tups, u.frzs, u.tbls⟩
  · obtain ⟨o', e⟩ := hB1 b o q hb
    have e1 := s1 b o' e
    rw [u.keep b o q n hb hx] at e1
    cases e1
    exact s2 b _ e
  · obtain ⟨sl, e1⟩ := u.slot b o q n hb hx
    obtain ⟨o1, e2, nf⟩ := fr b hb
    rw [e1] at e2; cases e2
    obtain ⟨sl', e3⟩ := up b _ e1 nf
    exact ⟨sl', e3⟩
  · by_cases hb : b ∈ fs
    · obtain ⟨o1, e2, nf⟩ := fr b hb
      obtain ⟨sl', e3⟩ := up b _ e2 nf
      exact ⟨_, e3⟩
    · obtain ⟨o', e⟩ := hB1 b o q hb
      exact ⟨o', s2 b o' e⟩
theorem HOk.air (hok : HOk P w H1 h1) (hB2 : ∀ b u, H1 b = some u → ∃ o', B.get? b = some o') (s1 : B.StaysIn h1) (s2 : B.StaysIn h2) : HOk P w H1 h2 := fun a o e =>
  (hok a o e).stay (fun b v hb q => by
    have hu : ∃ u, H1 b = some u := by
      rcases hb with rfl | hb
      · exact ⟨_, e⟩
      · exact ⟨_, hb⟩
    obtain ⟨u, hu⟩ := hu
    obtain ⟨o', e1⟩ := hB2 b u hu
    have e2 := s1 b o' e1
    rw [q] at e2; cases e2
    exact s2 b _ e1) (fun _ q => q) fun _ _ q => q
end
def CX1 (P : Program) (w : World) : CXT := fun outer H s E e s' =>
  ∃ (a C : Addr) (H' : Hp) (B : Heap), e = .ref a ∧ E (.ref C) none H' ∧ s'.os = s.os ∧ AllBare s'.gens ∧ Un (frs outer) [] H H' s.heap s'.heap ∧ HOk P w H' s'.heap ∧
    InAir B s'.heap outer a (.ref C) (some .none) ∧ (∀ b o, s.heap.get? b = some o → b ∉ frs outer → ∃ o', B.get? b = some o') ∧ (∀ b u, H' b = some u → ∃ o', B.get? b = some o')
structure DefCx (X : Cx) : Prop where
  stk : X.stack = X.env :: X.outer
  frm : X.env.frame = some X.env.locals
  ex : X.ex = []
def XE (X : Cx) (E : XK) : Value → Shared → Prop := fun e s' =>
  ∃ (pins : List (Addr × Obj)) (σ : St) (H : Hp) (s : Shared) (a C : Addr) (H1 : Hp) (B : Heap) (f : Option Value), e = .ref a ∧ Inv X pins σ H s ∧ E (.ref C) none H1 ∧ s'.os = s.os ∧ AllBare s'.gens ∧
    Un (frs X.stack) [] H H1 s.heap s'.heap ∧ HOk X.prog X.w H1 s'.heap ∧ InAir B s'.heap X.stack a (.ref C) f ∧ (f = none ∨ f = some .none ∨ f = some (rawInt X.env.locals)) ∧
    (∀ b o, s.heap.get? b = some o → b ∉ frs X.stack → ∃ o', B.get? b = some o') ∧ (∀ b u, H1 b = some u → ∃ o', B.get? b = some o')
abbrev Xw (X : Cx) (E : XK) : Cx := X.wish (XE X E)
theorem E0.no {P : Program} {w : World} {outer : List Env} {H : Hp} {s s' : Shared} {e : Value} : ¬ CX1 P w outer H s E0 e s' := fun ⟨_, _, _, _, _, z, _⟩ => z
theorem passN {X : Cx} {P : Program} {w : World} : Passes (CX1 P w) X E0 := fun _ _ _ _ _ _ _ h => (E0.no h).elim
section
variable {X : Cx} {E : XK}
theorem frames_air {B h : Heap} {l : List Env} {e : Addr} {c : Value} {f : Option Value} (x : InAir B h l e c f) : ∀ b ∈ frs l, ∃ o, h.get? b = some o ∧ ∀ vs, o.data ≠ .fields vs := fun b hb => (x.2.2.1.mem hb).2
theorem passX : Passes (CX1 X.prog X.w) (Xw X E) E := fun pins σ H s e s' I h => by
  obtain ⟨a, C, H', B, rfl, q, os, bare, un, hok, air, b1, b2⟩ := h
  exact ⟨pins, σ, H, s, a, C, H', B, some .none, rfl, I.unwish, q, os, bare, un, hok, air, .inr (.inl rfl), b1, b2⟩
theorem passesXE (D : DefCx X) : PassesOwn (model X.prog X.w) X.A X.env (XE X E) := fun e s' h => by
  obtain ⟨pins, σ, H, s, a, C, H1, B, f, rfl, I, q, os, bare, un, hok, air, hf, b1, b2⟩ := h
  have hfr := I.ok.frames
  rw [D.stk] at hfr air
  refine air_note hfr D.frm air hf fun h2 air2 up2 => air_back (s := { s' with heap := h2 }) D.frm air2 fun h3 air3 up3 => ?_
  refine ⟨pins, σ, H, s, a, C, H1, B, _, rfl, I, q, os, bare, un.air b1 air.1 air3.1 (up2.trans up3) (by rw [D.stk]; exact frames_air air), hok.air b2 air.1 air3.1, by rw [D.stk]; exact air3, .inr (.inr rfl), b1, b2⟩
theorem XE.leave (D : DefCx X) {e : Value} {s' : Shared} (h : XE X E e s') {E' : Value → Shared → Prop} {M : Model} :
    wpAny M X.A (leaving X.env e) (fun _ s'' => CX1 X.prog X.w X.outer X.H₀ X.s₀ E e s'') E' s' := by
  obtain ⟨pins, σ, H, s, a, C, H1, B, f, rfl, I, q, os, bare, un, hok, air, hf, b1, b2⟩ := h
  have hfr := I.ok.frames
  rw [D.stk] at hfr air
  refine air_leave hfr D.frm air hf fun h2 air2 up2 => ?_
  have u1 : Un (frs X.stack) [] H H1 s.heap h2 := un.air b1 air.1 air2.1 up2 (by rw [D.stk]; exact frames_air air)
  have e1 : frs X.stack = X.env.locals :: frs X.outer := by unfold frs; rw [D.stk, List.filterMap_cons, D.frm]
  have hb : Un (frs X.stack) [] X.H₀ H X.s₀.heap s.heap := by
    have z := I.base
    rw [D.ex] at z
    exact z.mono (fun b hb => by rw [e1]; exact List.mem_cons_of_mem _ hb) fun _ z => z
  have u2 := hb.trans u1
  rw [e1] at u2
  have u3 := u2.shrink (Heap.get?_none_of_le I.ok.above)
  refine ⟨a, C, H1, B, rfl, q, os.trans I.os, bare, u3, hok.air b2 air.1 air2.1, air2, fun b o z hn => ?_, b2⟩
  obtain ⟨o', z'⟩ := I.base.there b o z (by rw [D.ex]; simp)
  refine b1 b o' z' fun hm => ?_
  rw [e1] at hm
  rcases List.mem_cons.mp hm with hm | hm
  · exact absurd (Nat.lt_of_lt_of_le (Heap.lt_size z) I.ok.above) (by rw [hm]; exact Nat.lt_irrefl _)
  · exact hn hm
theorem PSs.unw {X : Cx} (D : DefCx X) (hx : X.xe = fun e s' => wpAny (model X.prog X.w) X.A (leaving X.env e) (fun _ s'' => CX1 X.prog X.w X.outer X.H₀ X.s₀ E e s'') (fun e' s'' => CX1 X.prog X.w X.outer X.H₀ X.s₀ E e' s'') s')
    {st : List Stmt} {t : TS} (h : PSs (Xw X E) st t) : PSs X st t := .mk fun pins s σ H Dn I hw =>
  wpAny_mono (h pins s σ H Dn (I.wish _) hw) (fun f s' q => q.unwish) fun e s' q => by rw [hx]; exact XE.leave D q
end
section
variable {P : Program} {w : World} {K : PySem.W.Frag} {mg : Str → Option Value} {base : Heap} {c : Bool}
theorem Fun.ok {x qual : Str} {st : Stmt} {f : Addr} {fd : FuncData} {N ps : List Str} {k : Nat} {sp : Sp} (F : Fun K x qual st f fd) (S : FnScope N ps (defScope st)) (len : ∀ vs H Q E, sp vs H Q E → vs.length = ps.length)
    (hbody : ∀ (cdv : Value) (A : Around) (outer : List Env) (s : Shared) (H : Hp) (vs : List V) (Q : VK) (E : XK) (hx : Option (Addr × Obj)), (c = true → hx = none) → HxOk hx H → Room k (A.deeper (envOfC qual (defScope st) s.heap.objs.size f cdv)) →
      DefCx (cxOf (CX1 P w) P w K mg base c hx N qual (defScope st) f cdv A outer s H E) → sp vs H Q E →
      ∃ t, PSs (Xw (cxOf (CX1 P w) P w K mg base c hx N qual (defScope st) f cdv A outer s H E) E) (defBody st) t ∧ t { nx := fun _ H' => Q .non H', rt := Q } (start N vs) H) : FnOk P w K mg base (CX1 P w) c (k + 1) f fd ps sp := by
  obtain ⟨oc, od, kV, doc, pm, an, cdv, ct, osl, rfl, lk, hcd⟩ := F.ex
  refine fn_of lk hcd S len fun A outer s H vs Q E hx hcx hh hr hsp => ?_
  obtain ⟨t, h, q⟩ := hbody cdv A outer s H vs Q E hx hcx hh hr ⟨rfl, rfl, rfl⟩ hsp
  exact ⟨t, PSs.unw ⟨rfl, rfl, rfl⟩ rfl h, q⟩
end
abbrev veB : List Value := [.type "ValueError", .type "Exception", .type "BaseException", .type "object"]
abbrev ExcC (K : PySem.W.Frag) (C : Addr) : Prop := PySem.W.excIn K C veB "ValueError.__new__" = true
theorem ns_keep {K : PySem.W.Frag} {h h' : Heap} {N : Addr} {m : Str → Option Value} (X : K.In h) (X' : K.In h') (q : PySem.W.nsOkIn K N = true) (n : h.Ns N m) : h'.Ns N m := by
  unfold PySem.W.nsOkIn at q
  split at q
  · rename_i ho
    exact n.at' fun o e => by
      have e2 := X _ _ ho
      rw [e] at e2
      cases e2
      exact X' _ _ ho
  · cases q
def tRaise (E : XK) (C : Addr) (t : TA) : TS := fun _ σ H => t σ H fun vs H1 => vs.length ≤ sizeLine ∧ E (.ref C) none H1
theorem made_air {h h' : Heap} {e C : Addr} {vs : List Value} {l : List Env} {B0 : Heap} (hm : Heap.MadeExcOf h h' e (.ref C) vs) (hl : h.FunFrames B0 l) : InAir (PySem.W.hideAll h (frs l)) h' l e (.ref C) none := by
  obtain ⟨t, he, _, _⟩ := hm.there
  refine ⟨fun b o q => hm.keeps b o (PySem.W.of_hideAll _ q), ?_, ?_, _, ⟨_, he, ⟨rfl, rfl⟩, rfl⟩, rfl, rfl⟩
  · cases q : (PySem.W.hideAll h (frs l)).get? e with
    | none => rfl
    | some o => have := PySem.W.of_hideAll _ q; rw [hm.new] at this; cases this
  · exact (PySem.W.funFrames_hide hl fun env he a ha => List.mem_filterMap.mpr ⟨env, he, ha⟩).of_keeps fun b o hb _ => ⟨o, hm.keeps b o hb, rfl⟩
theorem ps_raise {X : Cx} {E : XK} {x : Str} {C : Addr} {e : Expr} {es : List Expr} {t : TA} {np cpos pos : Pos} (hc : X.calm = true) (hg : Gl X x) (hm : X.mg x = some (.ref C)) (hE : ExcC X.K C) (ha : PA (Xw X E) (e :: es) t)
    (hdb : (x == ("__debug__" : Str)) = false := by decide) (he : starEach (e :: es) X.env = (false, eval e X.env) :: starEach es X.env := by rfl) (hpl : (backTo cpos (starEach es X.env)).any (·.1) = false := by rfl) :
    PS (Xw X E) (.Raise (some (.Call (.Name x np) (e :: es) [] cpos)) none pos) (tRaise E C t) := by
  constructor
  intro pins s σ H D I h
  have hE' := hE
  unfold ExcC PySem.W.excIn at hE'
  split at hE'
  · rename_i dd cd sl ho
    split at hE'
    · rename_i C' bm k0 k1 k2 k3 n k5 hmr hs
      simp only [Bool.and_eq_true, beq_iff_eq, Bool.not_eq_true'] at hE'
      obtain ⟨⟨⟨⟨⟨rfl, rfl⟩, hdel⟩, ht⟩, hok⟩, hni⟩ := hE'
      obtain ⟨nm, bs, mro, ns, qn, hd, sn, sub, ab, col, del⟩ := cd
      dsimp only at hmr hdel hok hni
      subst hmr hdel
      have hsl : sl = #[k0, k1, k2, k3, some (.builtin "ValueError.__new__"), k5] := by
        obtain ⟨l⟩ := sl
        simp only at hs
        rw [hs]
      subst hsl
      have KI := I.kIn
      have hN : s.heap.Ns ns (s.heap.nsMap ns) := .of_isNs (PySem.W.isNs_of_in KI hok)
      have T := PySem.W.tail_of_in KI ht
      refine wpAny_Raise_call_subU (C := C') (nm := nm) (q := qn) (N := ns) (bs := bs) (bm := bm) (hdct := hd) (sn := sn) (sub := sub) (ab := ab) (col := col) (dd := dd) (k0 := k0) (k1 := k1) (k2 := k2) (k3 := k3) (k5 := k5)
        PySem.F.excBase_ValueError (bmB := veB) (by decide) PySem.F.excBase_ValueError (mN := s.heap.nsMap ns) (T.hasType PySem.F.excBase_ValueError.hasBase) (I.ok.hd hc) (by show (backTo cpos (starEach (e :: es) X.env)).any (·.1) = false; rw [he]; show (false || (backTo cpos (starEach es X.env)).any (·.1)) = false; rw [hpl]; rfl) (PySem.W.nsMap_none_of_in KI hok hni)
        (ld_glob I hg hm ⟨rfl, ?_⟩ hdb)
      have ha' := ha cpos pins s σ H _ I h
      have ha2 : wpAny (model X.prog X.w) X.A (spliced (backTo cpos (starEach (e :: es) X.env))) _ (XE X E) s := ha'
      show wpAny (model X.prog X.w) X.A (evalArgs (.ref C') true (backTo cpos (starEach (e :: es) X.env)) []) _ (XE X E) s
      rw [he] at ha2 ⊢
      refine Calls.evalArgs_plain (thn ha2 fun us s2 ⟨vs, H2, I2, rv, z, q⟩ => ⟨rfl, by rw [← rv.length]; exact z, I2.kIn _ _ ho, ns_keep KI I2.kIn hok hN, PySem.W.tail_of_in I2.kIn ht, fun h' e hx => ?_⟩)
      have I3 := I2.unwish
      refine ⟨pins, σ, H2, s2, e, C', H2, PySem.W.hideAll s2.heap (frs X.stack), none, rfl, I3, q, rfl, I3.bare, Un.kept hx.keeps, I3.hok.kept hx.keeps, made_air hx I3.stack, .inl rfl, fun b o z hn => ⟨o, PySem.W.hideAll_get _ z hn⟩, fun b u z => ?_⟩
      obtain ⟨o', z'⟩ := (I3.hok b u z).there
      exact ⟨o', PySem.W.hideAll_get _ z' fun hn => by rw [I3.stkFree b hn] at z; cases z⟩
    · cases hE'
  · cases hE'
end L2
set_option Elab.async false
set_option linter.all false
set_option maxRecDepth 100000
namespace L2
open PySem PySem.Spec PyProof.Rows
def ExcObj (C : Addr) (o : Obj) : Prop := (o.cls = .ref C ∧ o.dict = none) ∧ ∃ vs, o.data = .fields vs ∧ vs[2]? = some .none
abbrev frzE (o : Obj) : HO := .frz o (.ext fun _ => True)
abbrev Cx.pin (X : Cx) (pn : List (Addr × Obj)) : Cx := { X with pn := pn }
abbrev hdCx (X : Cx) (a : Addr) (o : Obj) : Cx := { X with A := X.A.mark (some (.ref a)), calm := false, hx := some (a, o), xe := fun _ _ => False }
def blank (n : Nat) : St := List.replicate n none
theorem blank_no {n i : Nat} {v : V} : ¬ (blank n)[i]? = some (some v) := fun h => by
  unfold blank at h
  rw [List.getElem?_replicate] at h
  split at h <;> cases h
section
variable {X : Cx} {pins pn : List (Addr × Obj)} {σ : St} {H : Hp} {s : Shared} {a : Addr} {o : Obj}
theorem Inv.toPn (I : Inv X pins σ H s) : Inv (X.pin (X.pn ++ pins)) [] σ H s :=
  ⟨⟨I.ok.mod, I.ok.kind, I.ok.glob, I.ok.blt, I.ok.above, I.ok.inj, I.ok.has, I.ok.cab, I.ok.hd, I.ok.frames, I.ok.stk, I.ok.exf, I.ok.bs, I.ok.bsz, I.ok.noex, I.ok.exfs, I.ok.funs, I.ok.frf, I.ok.hnd⟩, I.os, I.bare, I.base, I.loc, I.cell, I.free, I.freeC,
    fun p hp => I.pin p (by rw [List.append_nil] at hp; exact hp), I.hok, I.len, I.hxs⟩
theorem Inv.ofPn {pins' : List (Addr × Obj)} (I : Inv (X.pin (X.pn ++ pins)) pins' σ H s) : Inv X pins σ H s :=
  ⟨⟨I.ok.mod, I.ok.kind, I.ok.glob, I.ok.blt, I.ok.above, I.ok.inj, I.ok.has, I.ok.cab, I.ok.hd, I.ok.frames, I.ok.stk, I.ok.exf, I.ok.bs, I.ok.bsz, I.ok.noex, I.ok.exfs, I.ok.funs, I.ok.frf, I.ok.hnd⟩, I.os, I.bare, I.base, I.loc, I.cell, I.free, I.freeC,
    fun p hp => I.pin p (List.mem_append_left _ hp), I.hok, I.len, I.hxs⟩
theorem Inv.toHd {C : Addr} (I : Inv X pins σ H s) (hx : ExcObj C o) (ha : ∃ u, H a = some (.frz o u)) : Inv (hdCx X a o) pins σ H s := by
  obtain ⟨_, vs, hd, h2⟩ := hx
  refine ⟨⟨I.ok.mod, I.ok.kind, I.ok.glob, I.ok.blt, I.ok.above, I.ok.inj, I.ok.has, I.ok.cab, (fun z => nomatch z), I.ok.frames, I.ok.stk, I.ok.exf, I.ok.bs, I.ok.bsz, I.ok.noex, I.ok.exfs, I.ok.funs, I.ok.frf, .inr ⟨a, o, vs, rfl, rfl, hd, h2⟩⟩, I.os, I.bare, I.base, I.loc, I.cell, I.free, I.freeC,
    I.pin, I.hok, I.len, fun a' o' e => ?_⟩
  cases e
  exact ha
theorem Inv.ofHd (I : Inv (hdCx X a o) pins σ H s) (hh : X.calm = true → X.A.handled = none) (h0 : X.hx = none) (hn : HdOk X.hx X.A) : Inv X pins σ H s :=
  ⟨⟨I.ok.mod, I.ok.kind, I.ok.glob, I.ok.blt, I.ok.above, I.ok.inj, I.ok.has, I.ok.cab, hh, I.ok.frames, I.ok.stk, I.ok.exf, I.ok.bs, I.ok.bsz, I.ok.noex, I.ok.exfs, I.ok.funs, I.ok.frf, hn⟩, I.os, I.bare, I.base, I.loc, I.cell, I.free, I.freeC,
    I.pin, I.hok, I.len, fun a' o' e => by rw [h0] at e; cases e⟩
theorem Inv.track {h0 : Heap} (I : Inv X pins σ H s) (hn : H a = none) (ha : s.heap.get? a = some o) (hs : X.s₀.heap.get? a = none) (hL : a ≠ X.env.locals) (hC : ∀ x c, X.env.cells.lookup x = some c → c ≠ a) (hP : ∀ p ∈ X.pn ++ pins, p.1 ≠ a) :
    Inv X pins σ (upd H a (frzE o)) s := by
  have ne : ∀ b u, H b = some u → b ≠ a := fun b u e z => by rw [z, hn] at e; cases e
  have st : ∀ b u, H b = some u → upd H a (frzE o) b = some u := fun b u e => by rw [upd_ne (ne b u e)]; exact e
  have fr : ∀ b, b ≠ a → H b = none → upd H a (frzE o) b = none := fun b z e => by rw [upd_ne z]; exact e
  refine ⟨I.ok, I.os, I.bare, ⟨I.base.keep, I.base.slot, fun b ob q n hx => fr b (fun z => by rw [z, hs] at q; cases q) (I.base.free b ob q n hx), I.base.there, fun b xs q => st b _ (I.base.tups b xs q), fun b ob u q => st b _ (I.base.frzs b ob u q), fun b ps q => ?_⟩,
    I.loc, I.cell, fr _ (Ne.symm hL) I.free, fun x c e => fr c (hC x c e) (I.freeC x c e), fun p hp => ?_, fun b u e => ?_, I.len, fun b ob e => ?_⟩
  · obtain ⟨more, e⟩ := I.base.tbls b ps q
    exact ⟨more, st b _ e⟩
  · obtain ⟨e, n, r⟩ := I.pin p hp
    exact ⟨e, fr _ (hP p hp) n, r⟩
  · by_cases hb : b = a
    · subst hb
      rw [upd_same] at e
      cases e
      exact ⟨ha, trivial, ⟨_, ha⟩, fun _ _ _ _ => trivial⟩
    · rw [upd_ne hb] at e
      exact (I.hok b u e).stay (fun c v _ q => q) (fun c q => st c _ q) fun c xs q => st c _ q
  · obtain ⟨u, z⟩ := I.hxs b ob e
    exact ⟨u, st b _ z⟩
theorem Inv.forget {h' : Heap} {t' : Nat} {m' : Str → Option Value} (I : Inv X pins σ H s) (hn : h'.Ns X.env.locals m') (hs : Heap.SameBut X.env.locals s.heap h') : Inv X pins (blank X.N.length) H { s with heap := h', toks := t' } := by
  have keep : ∀ b ob, b ≠ X.env.locals → s.heap.get? b = some ob → h'.get? b = some ob := fun b ob hb q => (hs.2 b hb).trans q
  have old : ∀ b ob, X.s₀.heap.get? b = some ob → b ≠ X.env.locals := fun b ob q => Nat.ne_of_lt (Nat.lt_of_lt_of_le (Heap.lt_size q) I.ok.above)
  refine ⟨I.ok, I.os, I.bare, ⟨fun b ob q n hb hx => keep b ob (old b ob q) (I.base.keep b ob q n hb hx), fun b ob q n hb hx => ?_, I.base.free, fun b ob q hx => ?_, I.base.tups, I.base.frzs, I.base.tbls⟩,
    ⟨m', hn, fun i x v _ e _ => (blank_no e).elim⟩, fun x c e => ?_, I.free, I.freeC, fun p hp => ?_, fun b u e => ?_, List.length_replicate, I.hxs⟩
  · obtain ⟨sl, e⟩ := I.base.slot b ob q n hb hx
    exact ⟨sl, keep b _ (old b ob q) e⟩
  · obtain ⟨o', e⟩ := I.base.there b ob q hx
    exact ⟨o', keep b o' (old b ob q) e⟩
  · obtain ⟨v, z⟩ := I.cell x c e
    exact ⟨v, z.sameBut hs (I.cne x c e)⟩
  · obtain ⟨e, n, ne, r⟩ := I.pin p hp
    exact ⟨keep _ _ ne e, n, ne, r⟩
  · refine (I.hok b u e).stay (fun c v hc q => keep c v (fun z => ?_) q) (fun _ q => q) fun _ _ q => q
    rcases hc with hc | hc
    · rw [← hc, z, I.free] at e; cases e
    · rw [z, I.free] at hc; cases hc
theorem ld_globA {M : Model} {A : Around} {E : Value → Shared → Prop} {x : Str} {u : Value} {pos : Pos} {Q : Value → Shared → Prop} (I : Inv X pins σ H s) (hg : Gl X x) (hm : X.mg x = some u) (h : Q u s)
    (hd : (x == ("__debug__" : Str)) = false := by decide) : wpAny M A (eval (.Name x pos) X.env) Q E s :=
  Calls.Name_function_global I.ok.kind hg (Calls.loadGlobal_global (by rw [I.ok.glob]; exact I.mod.glob.keeps I.bk) hm h) hd
end
def tTry (K : PySem.W.Frag) (n i : Nat) (CE : Addr) (tb : XK → TS) (th : TS) : TS := fun D σ H => ∃ E1 : XK, tb E1 D σ H ∧ ∀ cls H1, E1 cls none H1 → ∃ C, cls = .ref C ∧ PySem.W.exmOne K (.ref C) (.ref CE) = some true ∧
  ∀ a o, H1 a = none → ExcObj C o → th { nx := fun _ H' => D.nx (blank n) H', rt := D.rt, bk := fun _ H' => D.bk (blank n) H', ct := fun _ H' => D.ct (blank n) H' } ((blank n).set i (some (.ref a))) (upd H1 a (frzE o))
theorem SP.re {X : Cx} {E E' : Value → Shared → Prop} {pins : List (Addr × Obj)} {D : Ends} {f : Flow} {s' : Shared} (h : SP (X.wish E) pins D f s') : SP (X.wish E') pins D f s' := by
  cases f with
  | next => obtain ⟨a, b, I, q⟩ := h; exact ⟨a, b, I.unwish.wish _, q⟩
  | brk => obtain ⟨a, b, I, q⟩ := h; exact ⟨a, b, I.unwish.wish _, q⟩
  | cont => obtain ⟨a, b, I, q⟩ := h; exact ⟨a, b, I.unwish.wish _, q⟩
  | ret u => obtain ⟨v, a, b, I, r, q⟩ := h; exact ⟨v, a, b, I.unwish.wish _, r, q⟩
theorem SP.ofPn {X : Cx} {E E' : Value → Shared → Prop} {pins pins' : List (Addr × Obj)} {D : Ends} {f : Flow} {s' : Shared} (h : SP ((X.pin (X.pn ++ pins)).wish E) pins' D f s') : SP (X.wish E') pins D f s' := by
  cases f with
  | next => obtain ⟨a, b, I, q⟩ := h; exact ⟨a, b, I.unwish.ofPn.wish _, q⟩
  | brk => obtain ⟨a, b, I, q⟩ := h; exact ⟨a, b, I.unwish.ofPn.wish _, q⟩
  | cont => obtain ⟨a, b, I, q⟩ := h; exact ⟨a, b, I.unwish.ofPn.wish _, q⟩
  | ret u => obtain ⟨v, a, b, I, r, q⟩ := h; exact ⟨v, a, b, I.unwish.ofPn.wish _, r, q⟩
theorem ps_try {X : Cx} {E : XK} {body : List Stmt} {b₀ : Stmt} {suite : List Stmt} {x n : Str} {i : Nat} {CE : Addr} {tb : XK → TS} {th : TS} {np hpos pos : Pos} (Dx : DefCx X) (h0 : X.hx = none)
    (hb : ∀ (E1 : XK) (pn : List (Addr × Obj)), PSs (Xw (X.pin pn) E1) body (tb E1)) (hg : Gl X x) (hm : X.mg x = some (.ref CE)) (hN : X.N.Nodup) (hi : X.N[i]? = some n) (hl : X.env.scope.names.lookup n = some .local)
    (hh : ∀ (a : Addr) (o : Obj) (pn : List (Addr × Obj)), PSs (hdCx (X.pin pn) a o) (b₀ :: suite) th) (hdb : (x == ("__debug__" : Str)) = false := by decide) :
    PS (Xw X E) (.Try body [.ExceptHandler (some (.Name x np)) (some n) (b₀ :: suite) hpos] [] [] pos) (tTry X.K X.N.length i CE tb th) := by
  constructor
  intro pins s σ H D I h
  obtain ⟨E1, hq, hE⟩ := h
  have I0 := I.unwish
  refine wpAny_Try_except (wpAny_mono (hb E1 (X.pn ++ pins) [] s σ H D (I0.toPn.wish _) hq) (fun f s1 q => ?_) fun e s1 hx => ?_)
  · have q' : SP (Xw X E) pins D f s1 := q.ofPn
    cases f with
    | next => exact wpAny_execs_nil q'
    | brk => exact q'
    | cont => exact q'
    | ret u => exact q'
  · obtain ⟨pins', σ', H', s', a, C, H1, B, f, rfl, I1, q, os, bare, un, hok, air, hf, b1, b2⟩ := hx
    obtain ⟨C', ec, hsub, hth⟩ := hE _ _ q
    cases ec
    have hfr := I1.ok.frames
    have stk : (X.pin (X.pn ++ pins)).stack = X.env :: X.outer := Dx.stk
    rw [stk] at hfr air
    have newA : s'.heap.get? a = none := by
      cases z : s'.heap.get? a with
      | none => rfl
      | some oa =>
        obtain ⟨_, hen, hl', vs, he, _⟩ := air
        by_cases hm : a ∈ frs (X.env :: X.outer)
        · obtain ⟨_, o, ho, nf⟩ := hl'.mem hm
          exact absurd rfl (he.no_field ho nf)
        · obtain ⟨o', z'⟩ := b1 a oa z (by rw [stk]; exact hm)
          rw [hen] at z'; cases z'
    have hn1 : H1 a = none := by
      cases z : H1 a with
      | none => rfl
      | some u =>
        obtain ⟨o', z'⟩ := b2 a u z
        rw [air.2.1] at z'; cases z'
    refine air_note hfr Dx.frm air hf fun h2 air2 up2 => ?_
    refine air_mark (s := { s1 with heap := h2 }) (fr := none) air2 fun h3 air3 up3 => ?_
    have upTo : ∀ {h4 : Heap} {x : Option Value}, InAir B h4 (X.env :: X.outer) a (.ref C) x → s1.heap.UpToSlots h4 → Inv (X.pin (X.pn ++ pins)) pins' σ' H1 { s1 with heap := h4 } := fun {h4 x} air4 up4 =>
      I1.call' (s' := { s1 with heap := h4 }) (ch := []) os (by rw [stk] at un b1 ⊢; exact un.air b1 air.1 air4.1 up4 (frames_air air)) (hok.air b2 air.1 air4.1) bare (fun _ z => nomatch z)
    have I3 := upTo air3 (up2.trans up3)
    refine wpAny_handleBy_cons (codeAny_handlers_test (ld_globA (X := X.pin (X.pn ++ pins)) I3 hg hm ?_ hdb)) (by intro z; cases z)
    obtain ⟨vs3, ⟨oe3, ge3, ce3, de3⟩, _⟩ := air3.2.2.2
    have LT : PySem.W.Looks (model X.prog X.w) h3 (typeOf (.ref a)) (.ref C) := ce3.1 ▸ (PySem.W.Looks.ld ge3).andThen .now
    refine (PySem.W.exm_one (K := X.K) I3.kIn LT hsub) _ _ _ _ (fun _ _ z => z) ?_
    refine codeAny_handlers_suite_as ?_
    refine air_mark (s := { s1 with heap := h3 }) (fr := none) air3 fun h4 air4 up4 => ?_
    have I4 := upTo air4 ((up2.trans up3).trans up4)
    obtain ⟨vs4, ⟨oe, ge, ce, de⟩, e2, _⟩ := air4.2.2.2
    have hx : ExcObj C oe := ⟨ce, vs4, de, e2⟩
    have hsA : X.s₀.heap.get? a = none := by
      cases z : X.s₀.heap.get? a with
      | none => rfl
      | some ob =>
        obtain ⟨o', z'⟩ := I1.base.there a ob z (by show a ∉ X.ex; rw [Dx.ex]; simp)
        rw [newA] at z'; cases z'
    have I5 : Inv (X.pin (X.pn ++ pins)) pins' σ' (upd H1 a (frzE oe)) { s1 with heap := h4 } := I4.track (h0 := h4) hn1 ge hsA (fun z => by
        obtain ⟨m, ⟨ol, es, ep, hol, hdl, _⟩, _⟩ := I1.loc
        have hol' : s'.heap.get? X.env.locals = some ol := hol
        rw [← z, newA] at hol'; cases hol') (fun y c e z => by
        obtain ⟨v, ob, e1, _⟩ := I1.cell y c e
        rw [z, newA] at e1; cases e1) fun p hp z => by
        have e1 := (I1.pin p hp).1
        rw [z, newA] at e1; cases e1
    have I6 : Inv (X.pin (X.pn ++ pins)) [] (blank X.N.length) (upd H1 a (frzE oe)) { s1 with heap := h4 } := (I5.weak (σ' := blank X.N.length) (by rw [I5.len]; exact List.length_replicate) fun i v z => (blank_no z).elim).pins_of (fun p hp => nomatch hp)
    have I7 := I6.toHd hx ⟨_, upd_same⟩
    refine store_ok (X := hdCx (X.pin (X.pn ++ pins)) a oe) (i := i) (v := .ref a) I7 hN hi (.inl hl) rfl (fun s8 I8 => ?_) (.inr hl)
    refine wpAny_mono (hh a oe (X.pn ++ pins) [] s8 _ _ _ I8 (hth a oe hn1 hx)) (fun fl s9 q9 => ?_) fun _ _ z => z.elim
    have back : ∀ {σ9 : St} {H9 : Hp}, Inv (hdCx (X.pin (X.pn ++ pins)) a oe) [] σ9 H9 s9 → (∀ s10, Inv (Xw X E) pins (blank X.N.length) H9 s10 → SP (Xw X E) pins D fl s10) →
        wpAny (model X.prog X.w) X.A (do bindName X.env n .none; unbindBehindTheSuite X.env n hpos) (fun _ s10 => SP (Xw X E) pins D fl s10) (Xw X E).xe s9 := fun {σ9 H9} I9 k => by
      have I10 : Inv X pins σ9 H9 s9 := (I9.ofHd (X := X.pin (X.pn ++ pins)) I1.ok.hd h0 I1.ok.hnd).ofPn
      obtain ⟨m, hn, _⟩ := I10.loc
      refine wpAny_nameGoes hl hn (by rw [I10.ok.kind]; rfl) fun h' m' hn' hs' => k _ ((I10.forget hn' hs').wish _)
    cases fl with
    | next => obtain ⟨σ9, H9, I9, q9⟩ := q9; exact back I9 fun s10 J => ⟨_, _, J, q9⟩
    | brk => obtain ⟨σ9, H9, I9, q9⟩ := q9; exact back I9 fun s10 J => ⟨_, _, J, q9⟩
    | cont => obtain ⟨σ9, H9, I9, q9⟩ := q9; exact back I9 fun s10 J => ⟨_, _, J, q9⟩
    | ret u => obtain ⟨v, σ9, H9, I9, r9, q9⟩ := q9; exact back I9 fun s10 J => ⟨v, _, _, J, r9, q9⟩
end L2
set_option Elab.async false
set_option linter.all false
set_option maxRecDepth 100000
namespace L2
open PySem PySem.Spec PyProof.Rows
theorem closure_go {env : Env} : ∀ (l : List (Str × NameKind)) (cs : List (Str × Addr)), (∀ n, (n, NameKind.free) ∈ l → ∃ c, env.cells.lookup n = some c) →
    ∃ cl, (forIn l cs (fun (x : Str × NameKind) (r : List (Str × Addr)) => if (x.2 == NameKind.free) = true then (do let y ← cellOf env x.1; pure (ForInStep.yield ((x.1, y) :: r)) : Sem (ForInStep (List (Str × Addr)))) else pure (ForInStep.yield r)) : Sem (List (Str × Addr))) = pure cl ∧
      (∀ n c, cl.lookup n = some c → (env.cells.lookup n = some c ∧ (n, NameKind.free) ∈ l) ∨ cs.lookup n = some c) ∧ (∀ n, ((n, NameKind.free) ∈ l ∨ (cs.lookup n).isSome = true) → (cl.lookup n).isSome = true)
  | [], cs, _ => ⟨cs, rfl, fun n c h => .inr h, fun n h => by
      rcases h with h | h
      · exact nomatch h
      · exact h⟩
  | (n, k) :: r, cs, h => by
    by_cases hk : k = .free
    · subst hk
      obtain ⟨c, hc⟩ := h n List.mem_cons_self
      obtain ⟨cl, e, h1, h2⟩ := closure_go r ((n, c) :: cs) fun m hm => h m (List.mem_cons_of_mem _ hm)
      refine ⟨cl, ?_, fun m d hm => ?_, fun m hm => ?_⟩
      · rw [List.forIn_cons]
        simp only [beq_self_eq_true, if_true]
        have hce : cellOf env n = pure c := by unfold cellOf; rw [hc]
        rw [hce]
        exact e
      · rcases h1 m d hm with q | q
        · exact .inl ⟨q.1, List.mem_cons_of_mem _ q.2⟩
        · rw [List.lookup_cons] at q
          split at q
          · rename_i z
            have z' : m = n := by simpa using z
            cases q
            subst z'
            exact .inl ⟨hc, List.mem_cons_self⟩
          · exact .inr q
      · refine h2 m ?_
        rcases hm with hm | hm
        · rcases List.mem_cons.mp hm with z | z
          · have z' : m = n := congrArg Prod.fst z
            subst z'
            refine .inr ?_
            rw [List.lookup_cons]; simp
          · exact .inl z
        · refine .inr ?_
          rw [List.lookup_cons]
          split
          · rfl
          · exact hm
    · obtain ⟨cl, e, h1, h2⟩ := closure_go r cs fun m hm => h m (List.mem_cons_of_mem _ hm)
      refine ⟨cl, ?_, fun m d hm => ?_, fun m hm => h2 m ?_⟩
      · rw [List.forIn_cons]
        have hb : (k == NameKind.free) = false := by simpa using hk
        simp only [hb, Bool.false_eq_true, if_false]
        exact e
      · rcases h1 m d hm with q | q
        · exact .inl ⟨q.1, List.mem_cons_of_mem _ q.2⟩
        · exact .inr q
      · rcases hm with hm | hm
        · rcases List.mem_cons.mp hm with z | z
          · exact absurd (congrArg Prod.snd z).symm hk
          · exact .inl z
        · exact .inr hm
theorem closure_ok {scope : Scope} {env : Env} (h : ∀ n, (n, NameKind.free) ∈ scope.names → ∃ c, env.cells.lookup n = some c) :
    ∃ cl, closureFor scope env = pure cl ∧ (∀ n c, cl.lookup n = some c → env.cells.lookup n = some c ∧ (n, NameKind.free) ∈ scope.names) ∧ (∀ n, (n, NameKind.free) ∈ scope.names → (cl.lookup n).isSome = true) := by
  obtain ⟨cl, e, h1, h2⟩ := closure_go scope.names [] h
  refine ⟨cl, ?_, fun n c q => (h1 n c q).elim id fun z => by simp at z, fun n q => h2 n (.inl q)⟩
  unfold closureFor
  exact (congrArg (fun z : Sem (List (Str × Addr)) => z >>= pure) e).trans rfl
theorem lookup_relabel {env : Env} : ∀ {names : List (Str × NameKind)} {x : Str} {k : NameKind}, (names.map fun (n, k) => if (k == NameKind.free && env.scope.kind == .function && env.kindOf n == some .cell) then (n, NameKind.cell) else (n, k)).lookup x = some k →
    names.lookup x = some k ∨ (k = .cell ∧ names.lookup x = some .free)
  | [], _, _, h => by simp at h
  | (n, k') :: r, x, k, h => by
    have ih := @lookup_relabel env r x k
    rw [List.map_cons] at h
    by_cases hc : (k' == NameKind.free && env.scope.kind == .function && env.kindOf n == some .cell) = true
    · have h' : List.lookup x ((n, NameKind.cell) :: r.map fun (n, k) => if (k == NameKind.free && env.scope.kind == .function && env.kindOf n == some .cell) then (n, NameKind.cell) else (n, k)) = some k := by
        rw [← h]; dsimp only; rw [if_pos hc]
      rw [List.lookup_cons] at h' ⊢
      cases hx : x == n with
      | true =>
        rw [hx] at h'
        cases h'
        simp only [Bool.and_eq_true, beq_iff_eq] at hc
        rw [hc.1.1]
        exact .inr ⟨rfl, rfl⟩
      | false => rw [hx] at h'; exact ih h'
    · have h' : List.lookup x ((n, k') :: r.map fun (n, k) => if (k == NameKind.free && env.scope.kind == .function && env.kindOf n == some .cell) then (n, NameKind.cell) else (n, k)) = some k := by
        rw [← h]; dsimp only; rw [if_neg hc]
      rw [List.lookup_cons] at h' ⊢
      cases hx : x == n with
      | true => rw [hx] at h'; exact .inl h'
      | false => rw [hx] at h'; exact ih h'
abbrev compCx (X : Cx) (scope : Scope) (Nc : List Str) (cl : List (Str × Addr)) (C : Addr) (fp : List Addr) (pn : List (Addr × Obj)) (s₀ : Shared) (H₀ : Hp) : Cx :=
  { X with env := compEnvC scope cl C X.env, N := Nc, s₀ := s₀, H₀ := H₀, outer := X.stack, stack := X.stack, ex := fp, fn := fun _ => false, pn := pn, xe := fun _ _ => False }
def capOk (N : List Str) (scope : Scope) (p : Str × Option Nat) : Bool := match p.2 with
  | none => true
  | some k => decide (N[k]? = some p.1) && decide (scope.names.lookup p.1 = some .free)
structure CompSc (N : List Str) (fsc : Scope) (scope : Scope) (Nc : List Str) (caps : List (Option Nat)) (j : Nat) (x : Str) : Prop where
  kind : scope.kind = .function
  nocell : ∀ y ∈ scope.names, y.2 ≠ .cell
  loc : ∀ y ∈ scope.names, y.2 = .local → scope.names.lookup y.1 = some .local
  fre : ∀ y ∈ scope.names, y.2 = .free → fsc.names.lookup y.1 = some .cell ∨ fsc.names.lookup y.1 = some .free
  len : caps.length = Nc.length
  nd : Nc.Nodup
  cap : (Nc.zip caps).all (capOk N scope) = true
  var : Nc[j]? = some x
  slot : caps[j]? = some none
  own : scope.names.lookup x = some .local
def capOf (caps : List (Option Nat)) (σ : St) : St := caps.map fun c => c.bind fun k => (σ[k]?).join
theorem capOf_get {caps : List (Option Nat)} {σ : St} {i : Nat} {v : V} (h : (capOf caps σ)[i]? = some (some v)) : ∃ k, caps[i]? = some (some k) ∧ σ[k]? = some (some v) := by
  unfold capOf at h
  rw [List.getElem?_map] at h
  cases e : caps[i]? with
  | none => rw [e] at h; cases h
  | some c =>
    rw [e] at h
    cases c with
    | none => cases h
    | some k =>
      refine ⟨k, rfl, ?_⟩
      have h' : (σ[k]?).join = some v := Option.some.inj h
      cases e2 : σ[k]? with
      | none => rw [e2] at h'; cases h'
      | some y => rw [e2] at h'; cases y with
        | none => cases h'
        | some z => cases h'; rfl
structure PF (X : Cx) (ifs : List Expr) (t : TT) : Prop where
  run : ∀ (pins : List (Addr × Obj)) (s : Shared) (σ : St) (H : Hp) (Q : Bool → Hp → Prop), Inv X pins σ H s → t σ H Q →
    wpAny (model X.prog X.w) X.A (forIn ifs true fun c r => if r = true then do let ok ← isTrue c X.env (eval c X.env); pure (ForInStep.yield ok) else pure (ForInStep.yield r)) (TP X pins σ Q) X.xe s
instance {X : Cx} {ifs : List Expr} {t : TT} : CoeFun (PF X ifs t) (fun _ => ∀ (pins : List (Addr × Obj)) (s : Shared) (σ : St) (H : Hp) (Q : Bool → Hp → Prop), Inv X pins σ H s → t σ H Q →
    wpAny (model X.prog X.w) X.A (forIn ifs true fun c r => if r = true then do let ok ← isTrue c X.env (eval c X.env); pure (ForInStep.yield ok) else pure (ForInStep.yield r)) (TP X pins σ Q) X.xe s) := ⟨fun h => h.run⟩
def tYes : TT := fun _ H Q => Q true H
theorem pf_nil {X : Cx} : PF X [] tYes := .mk fun _ _ _ H _ I h => wpAny_tests_nil ⟨H, I, h⟩
theorem pf_one {X : Cx} {c : Expr} {t : TT} (h : PT X c t) : PF X [c] t := .mk fun pins s σ H Q I hw => wpAny_tests_one (h pins s σ H Q I hw)
theorem comp_loop {prog : Program} {w : World} {A : Around} {R : Result → Shared → Prop} {s : Shared} {elt target iter : Expr} {ifs : List Expr} {scope : Scope} {pos : Pos} {it acc : Value} {env : Env} (I : Nat → Shared → Prop)
    (turn : ∀ n s, I n s → wpAny (model prog w) A (pyNext it) (fun r s1 => match r with
      | none => R (.ok .next) s1
      | some v => wpAny (model prog w) A (letOwnedTupleGo target it v) (fun _ s2 => wpAny (model prog w) A (assign target env v) (fun _ s3 =>
          wpAny (model prog w) A (forIn ifs true fun c r => if r = true then do let ok ← isTrue c env (eval c env); pure (ForInStep.yield ok) else pure (ForInStep.yield r)) (fun ok s4 =>
            if ok = true then wpAny (model prog w) A (eval elt env) (fun x s5 => wpAny (model prog w) A (call (.builtin "list.append") [acc, x]) (fun _ s6 => ∃ m, m < n ∧ I m s6) (fun _ _ => False) s5) (fun _ _ => False) s4
            else ∃ m, m < n ∧ I m s4) (fun _ _ => False) s3) (fun _ _ => False) s2) (fun _ _ => False) s1) (fun _ _ => False) s)
    (n : Nat) (h : I n s) : codeAny (model prog w) A (.compLoop (.ListComp elt [⟨target, iter, ifs, 0⟩] scope pos) 0 it acc env) R s := by
  refine codeAny_loop rfl I (fun n s hI => ?_) n h
  show wpAny _ A ((compTurn (.ListComp elt [⟨target, iter, ifs, 0⟩] scope pos) 0 it acc env).onRaise (fun x => do noteFrame x env; theTreesLotGoes x)) _ _ s
  refine wpAny_noted (wpAny_noRaise ?_)
  rw [compTurn_list]
  refine wpAny_bind (wpAny_standAt (wpAny_bind (thn (turn n s hI) fun r s1 h1 => ?_)))
  cases r with
  | none => exact wpAny_pure h1
  | some v =>
    refine wpAny_bind (thn h1 fun _ s2 h2 => wpAny_bind (thn h2 fun _ s3 h3 => wpAny_bind (thn h3 fun ok s4 h4 => ?_)))
    cases ok with
    | false => exact wpAny_pure ⟨rfl, h4⟩
    | true => exact wpAny_bind (wpAny_bind (thn h4 fun x s5 h5 => wpAny_bind (thn h5 fun _ s6 h6 => wpAny_pure (wpAny_pure ⟨rfl, h6⟩))))
def CompW (J : It) (caps : List (Option Nat)) (j : Nat) (ti : TT) (te : TE) (σ : St) (H1 : Hp) (D : Addr) (Q : VK) : Prop :=
  ∃ W : Nat → Nat → Hp → Prop, (∃ m, W 0 m (upd H1 D (.lst []))) ∧ ∀ i m H2, W i m H2 →
    (J.stop i H2 ∧ Q (.ref D) H2) ∨ (J.go i H2 ∧ ∀ x H3, J.yld i H2 x H3 → ti ((capOf caps σ).set j (some x)) H3 fun b H4 => if b = true then te ((capOf caps σ).set j (some x)) H4 fun v H5 =>
      ∃ ys, H5 D = some (.lst ys) ∧ ys.length < sizeLine ∧ ∃ m', m' < m ∧ W (i + 1) m' (upd H5 D (.lst (ys ++ [v]))) else ∃ m', m' < m ∧ W (i + 1) m' H4)
def tComp (wi : TI) (caps : List (Option Nat)) (j : Nat) (ti : TT) (te : TE) : TE := fun σ H Q => wi σ H fun J H1 => ∀ D, H1 D = none → CompW J caps j ti te σ H1 D Q
theorem pe_comp {X : Cx} {elt iter : Expr} {x : Str} {px : Pos} {ifs : List Expr} {scope : Scope} {pos : Pos} {N Nc : List Str} {fsc : Scope} {caps : List (Option Nat)} {j : Nat} {wi : TI} {ti : TT} {te : TE} (S : CompSc N fsc scope Nc caps j x)
    (hi : PI X (.Name x px) iter wi) (hif : ∀ cl C fp pn s₀ H₀, PF (compCx X scope Nc cl C fp pn s₀ H₀) ifs ti) (he : ∀ cl C fp pn s₀ H₀, PE (compCx X scope Nc cl C fp pn s₀ H₀) elt te)
    (hN : X.N = N := by rfl) (hS : X.env.scope = fsc := by rfl) (hs : ∀ y, foldedSetIterable iter X.env y = pure y := by intro _; rfl) :
    PE X (.ListComp elt [⟨.Name x px, iter, ifs, 0⟩] scope pos) (tComp wi caps j ti te) := by
  constructor
  intro pins s σ H Q I h
  subst hN hS
  obtain ⟨cl, hcl, hc1, hc2⟩ := closure_ok (scope := scope) (env := X.env) fun n hn => by
    refine I.ok.has n ?_
    exact S.fre _ hn rfl
  rw [eval_ListComp]
  refine wpAny_comprehension_free (use := none) rfl hs hcl S.kind S.loc (thn (hi pins s σ H _ I h) fun v s1 h1 => thn h1 fun itv s2 h2 => ?_)
  obtain ⟨it, fp, tn, J, H2, rfl, I2, T, st2, f2, hR⟩ := h2
  obtain ⟨W, ⟨m0, w0⟩, turn⟩ := hR s2.heap.objs.size (I2.hok.fresh (Nat.le_refl _))
  have I3 := I2.lnew (its := []) (t' := s2.toks) .nil (Nat.zero_le _)
  refine wpAny_newObj_type (wpAny_newFunctionEnv S.nocell (by intro y hy; simp at hy) (fun h₁ hns₁ hsb₁ => ?_) S.kind)
  have hsz : (s2.heap.push { cls := .type "list", data := .seq ([] : List Value).toArray }).objs.size = s2.heap.objs.size + 1 := Heap.size_push ..
  generalize hs3 : ({ s2 with heap := s2.heap.push { cls := .type "list", data := .seq ([] : List Value).toArray } } : Shared) = s3 at I3 hns₁ hsb₁ ⊢
  have h3 : s3.heap = s2.heap.push { cls := .type "list", data := .seq ([] : List Value).toArray } := by rw [← hs3]
  have k4 : ∀ b u, s3.heap.get? b = some u → h₁.get? b = some u := fun b u q => hsb₁.extBut b u (Nat.ne_of_lt (Heap.lt_size q)) (Heap.get?_push_of_some _ q)
  have lt2 : ∀ b ∈ fp, b < s3.heap.objs.size := fun b hb => by
    obtain ⟨o, q, _⟩ := T.obj _ _ st2 b hb
    rw [h3, hsz]
    exact Nat.lt_succ_of_lt (Heap.lt_size q)
  have nst : ∀ b ∈ fp, b ∉ frs X.stack := fun b hb hm => by
    obtain ⟨_, f1, f3, _⟩ := f2 b hb
    exact (List.mem_cons.mp (I2.stkSub b hm)).elim f1 f3
  have nD : ∀ b ∈ fp, b ≠ s2.heap.objs.size := fun b hb z => by
    obtain ⟨o, q, _⟩ := T.obj _ _ st2 b hb
    exact absurd (Heap.lt_size q) (by rw [z]; exact Nat.lt_irrefl _)
  have pinS : ∀ p ∈ X.pn ++ pins, p.1 ∉ frs X.stack := fun p hp hm => by
    obtain ⟨_, _, ne, nf, _⟩ := I3.pin p hp
    exact (List.mem_cons.mp (I3.stkSub p.1 hm)).elim ne nf
  have relK : ∀ y k, (relabel scope X.env).names.lookup y = some k → scope.names.lookup y = some k ∨ (k = .cell ∧ scope.names.lookup y = some .free) := fun y k q => lookup_relabel q
  have okC : (compCx X scope Nc cl s3.heap.objs.size fp (X.pn ++ pins) s3 (upd H2 s2.heap.objs.size (.lst []))).Ok := by
    refine ⟨I.ok.mod, S.kind, I.ok.glob, I.ok.blt, Nat.le_refl _, fun y z c q1 q2 => I.ok.inj y z c (hc1 y c q1).1 (hc1 z c q2).1, fun y hy => ?_, (fun y c z => nomatch z), I.ok.hd, I.ok.frames, .inl rfl, fun b hb => ⟨Nat.ne_of_lt (lt2 b hb), fun y c e => (f2 b hb).2.2.2.2.1 y c (hc1 y c e).1⟩,
      I3.bs, Nat.le_trans I.ok.bsz I3.sz, fun b o e hb => ?_, nst, I3.stack, I3.stkFree, I.ok.hnd⟩
    · have hm : (y, NameKind.free) ∈ scope.names := by
        have q : scope.names.lookup y = some .free := by
          rcases hy with hy | hy
          · rcases relK y _ hy with q | q
            · exact absurd rfl (S.nocell _ (PySem.mem_of_lookup q))
            · exact q.2
          · rcases relK y _ hy with q | q
            · exact q
            · exact absurd q.1 (by decide)
        exact PySem.mem_of_lookup q
      exact Option.isSome_iff_exists.mp (hc2 y hm)
    · rcases (f2 b hb).2.2.2.1 with z | z
      · exact I.ok.noex b o e z
      · exact absurd (Nat.lt_of_lt_of_le (Heap.lt_size (I.ok.bs b o e).1) z) (Nat.lt_irrefl _)
  have lenC : (capOf caps σ).length = Nc.length := by unfold capOf; rw [List.length_map]; exact S.len
  have I4 : Inv (compCx X scope Nc cl s3.heap.objs.size fp (X.pn ++ pins) s3 (upd H2 s2.heap.objs.size (.lst []))) [] (capOf caps σ) (upd H2 s2.heap.objs.size (.lst [])) { s3 with heap := h₁, toks := s3.toks + ([] : List (Str × Value)).length } := by
    refine ⟨okC, rfl, I3.bare, Un.kept k4, ⟨_, hns₁, fun i y v e1 e2 e3 => ?_⟩, fun y c e => ?_, I3.hok.fresh (Nat.le_refl _), fun y c e => I3.freeC y c (hc1 y c e).1, fun p hp => ?_, I3.hok.kept k4, lenC, I3.hxs⟩
    · obtain ⟨k, e4, e5⟩ := capOf_get e2
      have hz : (y, some k) ∈ Nc.zip caps := by
        refine List.mem_of_getElem? (i := i) ?_
        rw [List.getElem?_zip_eq_some]
        exact ⟨e1, e4⟩
      have hcap := List.all_eq_true.mp S.cap _ hz
      simp only [capOk, Bool.and_eq_true, decide_eq_true_eq] at hcap
      obtain ⟨c1, c2⟩ := hcap
      have fr := S.fre _ (PySem.mem_of_lookup c2) rfl
      obtain ⟨m, hn, hl⟩ := I3.loc
      obtain ⟨u, r, l⟩ := hl k y v c1 e5 (fr.elim (fun z => .inr (.inl z)) fun z => .inr (.inr z))
      refine ⟨u, r, ?_⟩
      rcases l with ⟨z, _⟩ | ⟨_, c, e6, e7⟩
      · have z' : X.env.scope.names.lookup y = some .local := z
        rcases fr with q | q
        · rw [z'] at q; cases q
        · rw [z'] at q; cases q
      · refine .inr ⟨?_, c, ?_, ?_⟩
        · rcases e3 with q | q | q
          · rcases relK y _ q with z | z
            · rw [c2] at z; cases z
            · exact absurd z.1 (by decide)
          · exact .inl q
          · exact .inr q
        · obtain ⟨c', z⟩ := Option.isSome_iff_exists.mp (hc2 y (PySem.mem_of_lookup c2))
          have := (hc1 y c' z).1
          rw [e6] at this; cases this
          exact z
        · obtain ⟨oc, z1, z2⟩ := e7
          exact ⟨oc, k4 _ _ z1, z2⟩
    · obtain ⟨v, oc, z1, z2⟩ := I3.cell y c (hc1 y c e).1
      exact ⟨v, oc, k4 _ _ z1, z2⟩
    · rw [List.append_nil] at hp
      obtain ⟨e, n, ne, nf, d⟩ := I3.pin p hp
      exact ⟨k4 _ _ e, n, Nat.ne_of_lt (Heap.lt_size e), pinS p hp, d⟩
  have st4 : tn 0 h₁ := T.keep _ _ _ st2 fun b hb o q => k4 b o (by rw [h3]; exact Heap.get?_push_of_some _ q)
  have fr4 : ∀ b ∈ fp, (upd H2 s2.heap.objs.size (.lst [])) b = none := fun b hb => by rw [upd_ne (nD b hb)]; exact (f2 b hb).1
  have stat : ∀ {H' : Hp}, (∀ b ∈ fp, H' b = none) → ∀ b ∈ fp, FpOk (compCx X scope Nc cl s3.heap.objs.size fp (X.pn ++ pins) s3 (upd H2 s2.heap.objs.size (.lst []))) [] H' b := fun hn b hb => by
    obtain ⟨g0, g1, g2, g3, g4, g5⟩ := f2 b hb
    exact ⟨hn b hb, Nat.ne_of_lt (lt2 b hb), nst b hb, .inl hb, fun y c e => g4 y c (hc1 y c e).1, fun p hp => g5 p (by rw [List.append_nil] at hp; exact hp)⟩
  have loop : ∀ s5 : Shared, s5 = { s3 with heap := h₁, toks := s3.toks + ([] : List (Str × Value)).length } →
      codeAny (model X.prog X.w) X.A (.compLoop (.ListComp elt [⟨.Name x px, iter, ifs, 0⟩] scope pos) 0 (.ref it) (.ref s2.heap.objs.size) (compEnvC scope cl s3.heap.objs.size X.env)) (compPost (model X.prog X.w) X.A X.xe none (EP X pins σ Q) (.ref s2.heap.objs.size) s3.heap.objs.size) s5 := by
    intro s5 e5
    refine comp_loop (fun n s' => ∃ i H', Inv (compCx X scope Nc cl s3.heap.objs.size fp (X.pn ++ pins) s3 (upd H2 s2.heap.objs.size (.lst []))) [] (capOf caps σ) H' s' ∧ tn i s'.heap ∧ (∀ b ∈ fp, H' b = none) ∧ W i n H') ?_ m0 ⟨0, _, by rw [e5]; exact I4, by rw [e5]; exact st4, fr4, w0⟩
    rintro n s6 ⟨i, H6, I6, st6, fr6, w6⟩
    rcases turn i n H6 w6 with ⟨stop, qn⟩ | ⟨go, step⟩
    · refine thn (T.done (compCx X scope Nc cl s3.heap.objs.size fp (X.pn ++ pins) s3 (upd H2 s2.heap.objs.size (.lst []))) rfl rfl rfl rfl i [] s6 _ H6 _ I6 (stat fr6) st6 stop) fun r s7 ⟨hr, I7⟩ => ?_
      subst hr
      obtain ⟨m, hn, _⟩ := id I7.loc
      refine ⟨m, hn, fun h' hs' => ⟨.ref s2.heap.objs.size, H6, ?_, rfl, qn⟩⟩
      have keep : ∀ b o, b ≠ s3.heap.objs.size → s7.heap.get? b = some o → h'.get? b = some o := fun b o hb q => (hs'.2 b hb).trans q
      have un := I7.base
      refine I3.call' (s' := { s7 with heap := h' }) (ch := fp) I7.os ⟨fun b o q n hb hx => keep b o (Nat.ne_of_lt (Heap.lt_size q)) (un.keep b o q n hb hx), fun b o q n hb hx => ?_, un.free, fun b o q hx => ?_, un.tups, un.frzs, un.tbls⟩ (fun b u e => ?_) I7.bare fun b hb => ?_
      · obtain ⟨sl, z⟩ := un.slot b o q n hb hx
        exact ⟨sl, keep b _ (Nat.ne_of_lt (Heap.lt_size q)) z⟩
      · obtain ⟨o', z⟩ := un.there b o q hx
        exact ⟨o', keep b _ (Nat.ne_of_lt (Heap.lt_size q)) z⟩
      · refine (I7.hok b u e).stay (fun c v hc q => keep c v (fun z => ?_) q) (fun _ q => q) fun _ _ q => q
        have hfree : H6 s3.heap.objs.size = none := I7.free
        rcases hc with hc | hc
        · rw [← hc, z, hfree] at e; cases e
        · rw [z, hfree] at hc; cases hc
      · obtain ⟨g0, g1, g2, g3, g4, g5⟩ := f2 b hb
        exact ⟨g3, g1, g4, g5⟩
    · refine thn (T.item (compCx X scope Nc cl s3.heap.objs.size fp (X.pn ++ pins) s3 (upd H2 s2.heap.objs.size (.lst []))) rfl rfl rfl rfl i [] s6 _ H6 _ I6 (stat fr6) st6 go) fun r s7 ⟨u, hr, h7⟩ => ?_
      subst hr
      refine thn h7 fun _ s8 ⟨y, H8, I8, r8, y8, st8, fr8⟩ => ?_
      have I8' := I8.pinned (stat fr8) (T.obj _ _ st8)
      refine wpAny_assign_Name (store_ok (X := compCx X scope Nc cl s3.heap.objs.size fp (X.pn ++ pins) s3 (upd H2 s2.heap.objs.size (.lst []))) (i := j) (v := y) I8' S.nd S.var (.inl (lookup_relabel_local S.own)) r8 (fun s9 I9 => ?_) (.inr (lookup_relabel_local S.own)))
      have weak : ∀ {H' : Hp} {s' : Shared}, Inv (compCx X scope Nc cl s3.heap.objs.size fp (X.pn ++ pins) s3 (upd H2 s2.heap.objs.size (.lst []))) ([] ++ pinsAt fp s8.heap) ((capOf caps σ).set j (some y)) H' s' →
          Inv (compCx X scope Nc cl s3.heap.objs.size fp (X.pn ++ pins) s3 (upd H2 s2.heap.objs.size (.lst []))) [] (capOf caps σ) H' s' ∧ tn (i + 1) s'.heap ∧ (∀ b ∈ fp, H' b = none) := fun {H' s'} J => by
        refine ⟨(J.weak (σ' := capOf caps σ) (by rw [List.length_set]) fun i' v e => ?_).unpinned, T.keep _ _ _ st8 fun b hb o e => (J.pin (b, o) (List.mem_append_right _ (List.mem_append_right _ (mem_pinsAt hb e)))).1, fun b hb => ?_⟩
        · by_cases hj : i' = j
          · subst hj
            obtain ⟨k, e4, _⟩ := capOf_get e
            rw [S.slot] at e4; cases e4
          · rw [List.getElem?_set_ne (Ne.symm hj)]; exact e
        · obtain ⟨o, e, d⟩ := T.obj _ _ st8 b hb
          exact (J.pin (b, o) (List.mem_append_right _ (List.mem_append_right _ (mem_pinsAt hb e)))).2.1
      refine thn (hif cl s3.heap.objs.size fp (X.pn ++ pins) s3 _ _ s9 _ H8 _ I9 (step y H8 y8)) fun b s10 ⟨H10, I10, q10⟩ => ?_
      cases b with
      | false =>
        obtain ⟨m', hm, w'⟩ := q10
        obtain ⟨J, t1, f1⟩ := weak I10
        exact ⟨m', hm, i + 1, H10, J, t1, f1, w'⟩
      | true =>
        rw [if_pos rfl]
        refine thn (he cl s3.heap.objs.size fp (X.pn ++ pins) s3 _ _ s10 _ H10 _ I10 q10) fun e s11 ⟨ev, H11, I11, r11, ys, hD, hl, m', hm, w'⟩ => ?_
        refine thn (mt_append _ s11 _ H11 (.ref s2.heap.objs.size) [ev] (.ref s2.heap.objs.size) [e] (fun v H' => v = .non ∧ H' = upd H11 s2.heap.objs.size (.lst (ys ++ [ev]))) I11 rfl (.cons r11 .nil) ⟨_, ys, ev, rfl, rfl, hD, hl, rfl, rfl⟩) fun _ s12 ⟨v12, H12, I12, _, _, e12⟩ => ?_
        subst e12
        obtain ⟨J, t1, f1⟩ := weak I12
        exact ⟨m', hm, i + 1, _, J, t1, f1, w'⟩
  exact codeAny_compStart_list (loop _ rfl) (T.self _ 0 _ _ _ st4 (loop _ rfl))
end L2
set_option Elab.async false
set_option linter.all false
set_option maxRecDepth 100000
set_option exponentiation.threshold 5000
namespace L2
open PySem PySem.Spec PyProof.Rows
structure Own (P : Program) (w : World) (K : PySem.W.Frag) (mg : Str → Option Value) (base : Heap) (c : Bool) (k : Nat) (x : Str) (ps : List Str) (sp : Sp) : Prop where
  ex : ∃ f fd, FnOk P w K mg base (CX1 P w) c k f fd ps sp ∧ Binds K fd ps [] ∧ PySem.W.keepIn K (.ref f) = true ∧ mg x = some (.ref f)
section
variable {X : Cx} {c : Bool} {k : Nat} {ps : List Str} {sp : Sp} {E : XK} {x : Str} {p pos : Pos} {e : Expr} {es : List Expr} {t : TA}
theorem pe_own (O : Own X.prog X.w X.K X.mg X.base c k x ps sp) (hr : Room k X.A) (hx : Passes (CX1 X.prog X.w) X E) (ha : PA X (e :: es) t) (hca : c = true → X.calm = true := by first | exact fun h => h | exact fun _ => rfl | exact fun h => nomatch h) (hg : Gl X x := by rfl)
    (hdb : (x == ("__debug__" : Str)) = false := by decide) (he : starEach (e :: es) X.env = (false, eval e X.env) :: starEach es X.env := by rfl) (hpl : (backTo pos (starEach es X.env)).any (·.1) = false := by rfl) :
    PE X (.Call (.Name x p) (e :: es) [] pos) (tCall sp [] E t) := by
  obtain ⟨f, fd, F, hb, hk, hm⟩ := O.ex
  exact pe_call F hca hr hg hm hk hb .nil hx ha hdb he hpl
end
def CMulA (i j : Int) : Prop := CMul i j ∨ (i.natAbs < 2 ^ 1000 ∧ j.natAbs < 2 ^ 1000)
theorem CMulA.ok {i j : Int} (h : CMulA i j) : IntMulOk i j := by
  rcases h with h | ⟨h1, h2⟩
  · exact h.ok
  · exact .of_bits (Nat.le_trans (intBits_le h1) (by decide)) (Nat.le_trans (intBits_le h2) (by decide))
def CDivA (_ j : Int) : Prop := 0 < j ∧ j < 2 ^ 1000
section
variable {X : Cx}
theorem op_mulA : OpR X (binaryOp .Mult) (rI CMulA fun i j => .int (i * j)) := opI fun _ _ _ _ _ _ _ hc q => mul_int q hc.ok
theorem op_fdivA : OpR X (binaryOp .FloorDiv) (rI CDivA fun i j => .int (i / j)) := opI fun i j _ _ _ _ _ hc q => by
  obtain ⟨h1, h2⟩ := hc
  refine floordiv_int (by omega) (by rw [Int.fdiv_eq_ediv_of_nonneg _ (Int.le_of_lt h1)]; exact q) (.inl (PyProof.noPylong_of_log2 ?_))
  have h3 : j.natAbs < 2 ^ 1000 := by
    have e : ((j.natAbs : Nat) : Int) = j := by omega
    have h4 : ((j.natAbs : Nat) : Int) < ((2 ^ 1000 : Nat) : Int) := by rw [e, ← two_pow_cast]; exact h2
    exact Int.ofNat_lt.mp h4
  by_cases h0 : j.natAbs = 0
  · rw [h0]; decide
  · exact Nat.lt_trans ((Nat.log2_lt h0).mpr h3) (by decide)
theorem call_isi : CallR X (.builtin "isinstance") (fun xs H Q => ∃ x c t b, xs = [x, c] ∧ TyOf X.K H x t ∧ (∀ u, RelV c u → PySem.W.kitOne X.K t u = some b) ∧ Q (.bl b) H) := by
  intro pins s σ H xs us Q I r h
  obtain ⟨x, c, t, b, rfl, ty, hk, q⟩ := h
  obtain ⟨u, w', rfl, rx, rc⟩ := vals2 r
  exact isinst_ok I rx ty (hk w' rc) fun tk => ⟨.bl b, H, I.tok tk, rfl, q⟩
theorem hd1 {pins : List (Addr × Obj)} {σ : St} {H : Hp} {s : Shared} (I : Inv X pins σ H s) (o : Obj) : HdAt X.A.in1 (s.heap.push o) := I.hdAt.keeps fun a o' _ q => Heap.get?_push_of_some _ q
theorem hdNew {pins : List (Addr × Obj)} {σ : St} {H : Hp} {s : Shared} (I : Inv X pins σ H s) : X.A.in1.handled ≠ some (.ref s.heap.objs.size) := I.hdNe (I.hok.fresh (Nat.le_refl _))
theorem ints_at {ns : List Int} : ∀ {us : List Value}, Vals (ns.map V.int) us → ∀ (i : Nat) (v : Value), us[i]? = some v → ∃ t, v = Value.int (ns.getD i 0) t := by
  induction ns with
  | nil => intro us r; cases r; intro i v h; simp at h
  | cons n ns ih =>
    intro us r
    cases r with
    | cons a b =>
      intro i v h
      cases i with
      | zero =>
        obtain ⟨t, ht⟩ := (show ∃ t, _ = Value.int n t from a)
        have : v = Value.int n t := by rw [← ht]; exact (Option.some.inj (by simpa using h)).symm
        exact ⟨t, this⟩
      | succ i =>
        obtain ⟨t, ht⟩ := ih b i v (by simpa using h)
        exact ⟨t, by simpa using ht⟩
theorem preSum_take (l : List Int) : ∀ j, preSum (fun i => l.getD i 0) j = (l.take j).sum
  | 0 => by simp [preSum]
  | j + 1 => by
    rw [preSum, preSum_take l j]
    by_cases h : j < l.length
    · have e : l.take (j + 1) = l.take j ++ [l[j]] := by rw [List.take_add_one, List.getElem?_eq_getElem h]; rfl
      have e2 : l.getD j 0 = l[j] := by simp [List.getD, h]
      rw [e, List.sum_append, e2]
      simp
    · rw [List.take_of_length_le (by omega), List.take_of_length_le (by omega)]
      have : l.getD j 0 = 0 := by simp [List.getD, List.getElem?_eq_none (Nat.le_of_not_lt h)]
      omega
theorem call_sum : CallR X (.builtin "sum") (fun xs H Q => ∃ (p : Addr) (ns : List Int), xs = [.ref p] ∧ SqL X.K H p (ns.map V.int) ∧ Q (.int ns.sum) H) := by
  intro pins s σ H xs us Q I r h
  obtain ⟨p, ns, rfl, hq, q⟩ := h
  obtain ⟨u, rfl, rx⟩ := vals1 r
  cases rx
  obtain ⟨its, rv, pl, hz⟩ := I.list hq
  have hl := rv.length
  rw [List.length_map] at hl
  have hne : p ≠ s.heap.objs.size := fun z => by
    obtain ⟨o, ho, _⟩ := pl.isList
    exact absurd (Heap.lt_size ho) (by rw [z]; exact Nat.lt_irrefl _)
  refine call_sum_walkG (wpAny_pyIter_list pl.isList ?_)
  refine ⟨s.heap.objs.size, _, _, _, _, _, fun i => ns.getD i 0, rfl, walks_list (A := X.A.in1) s.heap.objs.size p hne (hdNew I) its.toArray, ⟨⟨_, Heap.get?_push_size _ rfl, rfl, rfl⟩, ?_, hd1 I _⟩, fun b hb => ?_, fun i v hv => ints_at rv i v (by simpa using hv), fun h' tk t' k => ?_⟩
  · obtain ⟨o, ho, r'⟩ := pl.isList
    exact ⟨o, Heap.get?_push_of_some _ ho, r'⟩
  · rw [Heap.size_push]
    rcases List.mem_append.mp hb with hb | hb
    · rcases List.mem_cons.mp hb with rfl | hb
      · exact Nat.lt_succ_self _
      · obtain rfl := List.mem_singleton.mp hb
        obtain ⟨o, ho, _⟩ := pl.isList
        exact Nat.lt_succ_of_lt (Heap.lt_size ho)
    · unfold hdA at hb
      split at hb
      · rename_i a ha
        obtain rfl := List.mem_singleton.mp hb
        rcases I.hdAt with z | ⟨a', o, vs, z, ho, _⟩
        · have ha' : X.A.handled = some (.ref b) := ha
          rw [z] at ha'; cases ha'
        · have ha' : X.A.handled = some (.ref b) := ha
          rw [z] at ha'; cases ha'
          exact Nat.lt_succ_of_lt (Heap.lt_size ho)
      · exact nomatch hb
  · refine ⟨.int ns.sum, H, ?_, ⟨t', ?_⟩, q⟩
    · refine I.kept fun b o z => k b o ?_ (Heap.get?_push_of_some _ z)
      intro hm
      have : b = s.heap.objs.size := by simpa using hm
      exact absurd (Heap.lt_size z) (by rw [this]; exact Nat.lt_irrefl _)
    · rw [preSum_take, List.size_toArray, ← hl, List.take_of_length_le (Nat.le_refl _)]
def eqVs : List V → List V → Bool
  | [], [] => true
  | x :: xs, y :: ys => eqV x y && eqVs xs ys
  | _, _ => false
theorem eqVs_len : ∀ {xs ys : List V}, xs.length ≠ ys.length → eqVs xs ys = false
  | [], [], h => absurd rfl h
  | [], _ :: _, _ => rfl
  | _ :: _, [], _ => rfl
  | x :: xs, y :: ys, h => by rw [eqVs, eqVs_len (fun e => h (by simp [e])), Bool.and_false]
theorem eqVs_all : ∀ {xs ys : List V}, xs.length = ys.length → (List.range xs.length).all (fun i => eqV (xs.getD i .non) (ys.getD i .non)) = eqVs xs ys
  | [], [], _ => rfl
  | x :: xs, y :: ys, h => by
    have ih := eqVs_all (xs := xs) (ys := ys) (by simpa using h)
    rw [List.length_cons, List.range_succ_eq_map, List.all_cons, List.all_map, eqVs, ← ih]
    rfl
theorem vals_getD {xs : List V} {us : List Value} (r : Vals xs us) (f : xs.all flatV = true) {i : Nat} {u : Value} (h : us[i]? = some u) : RelV (xs.getD i .non) u ∧ flatV (xs.getD i .non) = true := by
  have hl := r.length
  have hi : i < xs.length := by rw [hl]; exact (List.getElem?_eq_some_iff.mp h).1
  obtain ⟨u', h', r'⟩ := r.get (i := i) (x := xs[i]) (by simp [hi])
  rw [h] at h'; cases h'
  have e : xs.getD i .non = xs[i] := by simp [List.getD, hi]
  rw [e]
  exact ⟨r', List.all_eq_true.mp f _ (List.getElem_mem hi)⟩
def rEqL (K : PySem.W.Frag) : R2 := fun x y H Q => ∃ p q xs ys, x = .ref p ∧ y = .ref q ∧ SqL K H p xs ∧ SqL K H q ys ∧ xs.all flatV = true ∧ ys.all flatV = true ∧ Q (.bl (eqVs xs ys)) H
def rNeL (K : PySem.W.Frag) : R2 := fun x y H Q => ∃ p q xs ys, x = .ref p ∧ y = .ref q ∧ SqL K H p xs ∧ SqL K H q ys ∧ xs.all flatV = true ∧ ys.all flatV = true ∧ Q (.bl (!eqVs xs ys)) H
theorem items_eqAt {A : Around} {s : Shared} {xs ys : List V} {us ws : List Value} (r : Vals xs us) (r' : Vals ys ws) (f : xs.all flatV = true) (f' : ys.all flatV = true) (j : Nat) (h1 : j < us.toArray.size) (h2 : j < ws.toArray.size) :
    SeqAt.EqAt A s us.toArray[j] ws.toArray[j] (eqV (xs.getD j .non) (ys.getD j .non)) := by
  obtain ⟨a1, a2⟩ := vals_getD r f (i := j) (u := us.toArray[j]) (by rw [List.getElem_toArray]; exact List.getElem?_eq_getElem _)
  obtain ⟨b1, b2⟩ := vals_getD r' f' (i := j) (u := ws.toArray[j]) (by rw [List.getElem_toArray]; exact List.getElem?_eq_getElem _)
  exact eqAt_V a1 b1 a2 b2
theorem op_eqL (hu : X.A.units < cLine) : OpR X (compareOp .Eq) (rEqL X.K) := by
  intro pins s σ H x y v u Q I rx ry h
  obtain ⟨p, q, xs, ys, rfl, rfl, hx, hy, fx, fy, k⟩ := h
  cases rx
  cases ry
  obtain ⟨us, r, pl, _⟩ := I.list hx
  obtain ⟨ws, r', pl', _⟩ := I.list hy
  have l1 := r.length
  have l2 := r'.length
  by_cases hl : xs.length = ys.length
  · refine SeqAt.eq_listAt (e := fun j => eqV (xs.getD j .non) (ys.getD j .non)) pl.isList pl'.isList (by simp [← l1, ← l2, hl]) hu (fun j h1 h2 => items_eqAt r r' fx fy j h1 h2) ⟨.bl _, H, I, rfl, ?_⟩
    rw [List.size_toArray, ← l1, eqVs_all hl]
    exact k
  · refine SeqAt.eq_list_lengthsAt pl.isList pl'.isList (by simp [← l1, ← l2, hl]) hu ⟨.bl _, H, I, rfl, ?_⟩
    rw [eqVs_len hl] at k
    exact k
theorem op_neL (hu : X.A.units < cLine) : OpR X (compareOp .NotEq) (rNeL X.K) := by
  intro pins s σ H x y v u Q I rx ry h
  obtain ⟨p, q, xs, ys, rfl, rfl, hx, hy, fx, fy, k⟩ := h
  cases rx
  cases ry
  obtain ⟨us, r, pl, _⟩ := I.list hx
  obtain ⟨ws, r', pl', _⟩ := I.list hy
  have l1 := r.length
  have l2 := r'.length
  by_cases hl : xs.length = ys.length
  · refine SeqAt.RcNeAt.lists (e := fun j => eqV (xs.getD j .non) (ys.getD j .non)) pl.isList pl'.isList (by simp [← l1, ← l2, hl]) hu (fun j h1 h2 => items_eqAt r r' fx fy j h1 h2) _ _ _ _ ⟨.bl _, H, I, rfl, ?_⟩
    rw [List.size_toArray, ← l1, eqVs_all hl]
    exact k
  · refine SeqAt.RcNeAt.lists_lengths pl.isList pl'.isList (by simp [← l1, ← l2, hl]) hu _ _ _ _ ⟨.bl _, H, I, rfl, ?_⟩
    rw [eqVs_len hl] at k
    exact k
def rRepT (K : PySem.W.Frag) : R2 := fun x y H Q => ∃ l k xs, x = .ref l ∧ y = .int k ∧ SqT K H l xs ∧ xs ≠ [] ∧ 1 < k ∧ k < 2 ^ 63 ∧ xs.length * k.toNat ≤ sizeLine ∧ ∀ p, H p = none → Q (.ref p) (upd H p (.tup (List.replicate k.toNat xs).flatten))
def rIndex : V → List V → Hp → VK → Prop := fun x vs H Q => ∃ l xs y j, x = .ref l ∧ vs = [y] ∧ H l = some (.lst xs) ∧ xs.all flatV = true ∧ flatV y = true ∧ xs.findIdx? (fun z => eqV z y) = some j ∧ Q (.int j) H
theorem mt_index : MtM X "list.index" rIndex := by
  intro pins s σ H x vs v us Q I rx rv h
  obtain ⟨l, xs, y, j, rfl, rfl, hH, fx, fy, hj, q⟩ := h
  cases rx
  obtain ⟨u, rfl, ru⟩ := rv.one
  obtain ⟨z, its, n, r, hl, e⟩ := I.lstM hH
  obtain ⟨hlt, hp, hbef⟩ := List.findIdx?_eq_some_iff_getElem.mp hj
  have get : ∀ (i : Nat) (h : i < xs.length), ∃ (h' : i < its.length), RelV xs[i] its[i] := fun i h => by
    obtain ⟨w, e1, e2⟩ := r.get (i := i) (x := xs[i]) (by simp [h])
    obtain ⟨h', e3⟩ := List.getElem?_eq_some_iff.mp e1
    exact ⟨h', by rw [e3]; exact e2⟩
  have fl : ∀ (i : Nat) (h : i < xs.length), flatV xs[i] = true := fun i h => List.all_eq_true.mp fx _ (List.getElem_mem h)
  obtain ⟨hj', rj⟩ := get j hlt
  refine call_meets PySem.F.slot_list_index ⟨_, e, rfl⟩ PySem.F.entry_list_index (PySem.F.args_list_index_2 _ _)
    (SeqAt.list_indexAt l its.toArray n none #[] u (eqU y) j (by simpa using hj') (by have := sizeLine_eq; omega) ?_ ?_) ⟨e, fun w hw => mem_eqAt ru fy r fx w (by simpa using hw), ⟨.int j, H, I.tok _, ⟨_, rfl⟩, q⟩⟩
  · rw [List.getElem_toArray, eqU_of rj (fl j hlt)]
    exact hp
  · intro i _ hi
    have hi' : i < xs.length := by omega
    obtain ⟨_, ri⟩ := get i hi'
    rw [List.getElem_toArray, eqU_of ri (fl i hi')]
    have := hbef i hi
    simpa using this
end
end L2
set_option Elab.async false
set_option linter.all false
set_option maxRecDepth 100000
namespace L2
open PySem PySem.Spec PyProof.Rows
structure ExcK (K : PySem.W.Frag) (C : Addr) : Prop where
  ga : PySem.W.findIn K (.ref C) "__getattribute__" = some (some (.builtin "BaseException.__getattribute__"))
  na : PySem.W.findIn K (.ref C) "__getattr__" = some none
  ca : PySem.W.findIn K (.ref C) "__class__" = some (some (.builtin "object.__class__"))
  cg : PySem.W.specialIn K (.builtin "object.__class__") "__get__" = some (some (.builtin "getset_descriptor.__get__"))
  ct : PySem.W.takesIn K (.builtin "object.__class__") = some true
  mo : PySem.W.mroIn K C (.type "object") = some true
  mb : PySem.W.mroIn K C (.type "BaseException") = some true
  hd : PySem.W.hasDictIn K C = true
section
open PySem.W
variable {prog : Program} {w : World} {A : Around} {E : Value → Shared → Prop} {s : Shared} {K : PySem.W.Frag} {x C : Addr} {ox : Obj}
theorem exc_class {Q : Option Value → Shared → Prop} (F0 : ExcK K C) (X : K.In s.heap) (I : PySem.W.InstAt s.heap x ox C none) (h : Q (some (.ref C)) { s with toks := s.toks + 1 }) : wpAny (model prog w) A (getAttr? (.ref x) "__class__") Q E s := by
  obtain ⟨hh, g, d, t, os⟩ := s
  have L0 := I.type (M := model prog w)
  have L1 := looks_findIn (M := model prog w) X F0.ga
  have L2 := looks_findIn (M := model prog w) X F0.na
  have hc : (clsIn K C).isSome = true := by obtain ⟨cd, hc, _⟩ := any_some F0.hd; rw [hc]; rfl
  have hf : findObj K C none "__class__" = some (.bind (.builtin "getset_descriptor.__get__") (.builtin "object.__class__")) := by
    obtain ⟨cd, hc⟩ := Option.isSome_iff_exists.mp hc
    unfold findObj
    rw [hc, Option.bind_some, F0.ca, Option.bind_some]
    simp [F0.cg, F0.ct]
  have L3 := looks_find (M := model prog w) X I hf
  have L4 : Looks (model prog w) hh (isInstance (.ref x) (.type "BaseException")) true := L0.andThen (looks_mroIn X F0.mb)
  unfold getAttr? getAttrBy? getAttrBy
  refine wpAny_bind (wpAny_mkText (wpAny_bind (wpAny_attempt (wpAny_holding (wpAny_bind (L0.at (wpAny_bind (L1.at ?_))))))))
  show wpAny _ _ (if (onTheHeap (Value.ref C) && Value.builtin "BaseException.__getattribute__" == Value.builtin "object.__getattribute__") = true then _ else _) _ _ _
  rw [show (onTheHeap (Value.ref C) && Value.builtin "BaseException.__getattribute__" == Value.builtin "object.__getattribute__") = false from by rw [show (Value.builtin "BaseException.__getattribute__" == Value.builtin "object.__getattribute__") = false from by decide +kernel, Bool.and_false], if_neg Bool.false_ne_true]
  unfold getAttrByItsOwn hookBefore
  refine wpAny_bind ?_
  show wpAny _ _ (typeLookup (.ref C) "__getattr__") _ _ _
  refine L2.at ?_
  refine wpAny_bind (wpAny_attempt (wpAny_holding ?_))
  unfold callGetattribute
  rw [if_neg (by decide)]
  unfold boundAndCalled
  refine wpAny_bind (wpAny_of_eq (PySem.F.attr_ValueError.ga.bind (.ref x)) ?_)
  show wpAny _ _ (call (.builtin "BaseException.__getattribute__") [.ref x, .str "__class__" t]) _ _ _
  refine wpAny_call (codeAny_call_builtin PySem.F.attr_ValueError.ga.plain PySem.F.entry_bexc_ga ?_)
  have hk : builtinKind "BaseException.__getattribute__" = some .slot := by decide +kernel
  have hsplit : splitId "BaseException.__getattribute__" = some ("BaseException", "__getattribute__") := by decide +kernel
  have ha := PySem.F.args_bexc_ga (.ref x) (.str "__class__" t)
  simp only [checkBuiltinCall, hk, hsplit]
  refine wpAny_bind (L4.at ?_)
  simp only [Bool.not_true, Bool.false_eq_true, if_false]
  refine wpAny_of_eq (a := ()) ha ?_
  unfold Builtin.«object.__getattribute__»
  repeat lk
  refine wpAny_run (c := .call (.builtin "getset_descriptor.__get__") ⟨[.builtin "object.__class__", .ref x, .ref C], []⟩) (h := none) (class_get (K := K) (C := C) (ox := ox) (od := none) X I F0.mo ?_) (by intro z; cases z)
  refine wpAny_pure ?_
  refine wpAny_pure ?_
  exact handed_on rfl (wpAny_pure h)
theorem kitx_exc (F0 : ExcK K C) : PySem.W.KitX K (.ref x) (.ref C) (fun h => ∃ o, h.get? x = some o ∧ ExcObj C o) where
  ty := fun M h _ ⟨o, ho, ⟨⟨hc, _⟩, _⟩⟩ => hc ▸ (Looks.ld ho).andThen .now
  it := fun _ _ X _ => by
    obtain ⟨cdD, hcD, _⟩ := any_some F0.hd
    unfold clsIn at hcD
    split at hcD
    · rename_i c' d' cd' sl' ho
      intro A' Q' E' s' k q
      unfold isType loadHead
      exact wpAny_bind (wpAny_loadPart (k _ _ (X _ _ ho)) (wpAny_pure q))
    · cases hcD
  ne := fun h tp dd its n sl X htp => by
    obtain ⟨cdD, hcD, _⟩ := any_some F0.hd
    refine Bool.eq_false_iff.mpr fun q => ?_
    have e : C = tp := Value.ref.inj (beq_iff_eq.mp q)
    subst e
    unfold clsIn at hcD
    split at hcD
    · rename_i c' d' cd' sl' ho
      have z := (X _ _ ho).symm.trans htp
      cases z
    · cases hcD
  ca := fun {prog w A E Q s} X ⟨o, ho, ⟨⟨hc, hdn⟩, vs, hd, _⟩⟩ k => exc_class (ox := o) F0 X ⟨ho, hc, by unfold notCls; rw [hd], by rw [hdn]; trivial⟩ k
end
def ExcV (H : Hp) (x : V) (C : Addr) : Prop := ∃ a o, x = .ref a ∧ H a = some (frzE o) ∧ ExcObj C o
theorem call_isiE {X : Cx} : CallR X (.builtin "isinstance") (fun xs H Q => ∃ x c C b, xs = [x, c] ∧ ExcV H x C ∧ ExcK X.K C ∧ (∀ u, RelV c u → PySem.W.kitOne X.K (.ref C) u = some b) ∧ Q (.bl b) H) := by
  intro pins s σ H xs us Q I r h
  obtain ⟨x, c, C, b, rfl, ⟨a, o, rfl, ha, hx⟩, F0, hk, q⟩ := h
  obtain ⟨u, w', rfl, rx, rc⟩ := vals2 r
  cases rx
  exact PySem.W.kia_one (kitx_exc F0) I.kIn ⟨o, (I.hok a _ ha).1, hx⟩ (hk w' rc) (fun z => nomatch z) fun tk => ⟨.bl b, H, I.tok tk, rfl, q⟩
section
end
end L2
set_option Elab.async false
set_option linter.all false
set_option maxRecDepth 100000
namespace L2
open PySem PySem.Spec PyProof.Rows
theorem bt_isinstance : bootBuiltins "isinstance" = some (.builtin "isinstance") := by decide +kernel
theorem bt_len : bootBuiltins "len" = some (.builtin "len") := by decide +kernel
theorem bt_sum : bootBuiltins "sum" = some (.builtin "sum") := by decide +kernel
theorem bt_max : bootBuiltins "max" = some (.builtin "max") := by decide +kernel
theorem bt_min : bootBuiltins "min" = some (.builtin "min") := by decide +kernel
theorem bt_bool : bootBuiltins "bool" = some (.type "bool") := by decide +kernel
theorem bt_int : bootBuiltins "int" = some (.type "int") := by decide +kernel
theorem bt_ValueError : bootBuiltins "ValueError" = some (.type "ValueError") := by decide +kernel
theorem pe_ty {X : Cx} {x : Str} {n : String} {pos : Pos} (hm : X.mg x = none) (hv : bootBuiltins x = some (.type n)) (hg : Gl X x := by rfl) (hn : x ≠ "__name__" := by decide) (hd : (x == ("__debug__" : Str)) = false := by decide) : PE X (.Name x pos) (tC (.ty n)) :=
  pe_bltn hg hm hv (v := .ty n) rfl hn hd
theorem pe_cls {X : Cx} {x : Str} {C : Addr} {pos : Pos} (hm : X.mg x = some (.ref C)) (hg : Gl X x := by rfl) (hd : (x == ("__debug__" : Str)) = false := by decide) : PE X (.Name x pos) (tC (.ref C)) :=
  pe_glob hg hm (v := .ref C) rfl hd
theorem pe_const {X : Cx} {x : Str} {v : V} {pos : Pos} (h : ∃ u, X.mg x = some u ∧ RelV v u) (hg : Gl X x := by rfl) (hd : (x == ("__debug__" : Str)) = false := by decide) : PE X (.Name x pos) (tC v) := by
  obtain ⟨u, hm, r⟩ := h
  exact pe_glob hg hm r hd
theorem Same.new {H : Hp} {p : Addr} (h : H p = none) (o : HO) : Same H (upd H p o) := fun b u q => by rw [upd_ne (ne_of_none q h)]; exact q
theorem Same.upd {H H' : Hp} (s : Same H H') {p : Addr} {o : HO} (h : H p = none) (e : H' p = some o) (o' : HO) : Same H (upd H' p o') := fun b u q => by
  rw [upd_ne (fun z => by rw [z, h] at q; cases q)]; exact s b u q
theorem Same.seqT {K : PySem.W.Frag} {H H' : Hp} {a : Addr} {xs : List V} (e : Same H H') (h : SqT K H a xs) : SqT K H' a xs := by
  rcases h with (h | ⟨o, h⟩) | h
  · exact .inl (.inl (e _ _ h))
  · exact .inl (.inr ⟨o, e _ _ h⟩)
  · exact .inr h
theorem small {n : Nat} (h : n ≤ 1000) : n ≤ sizeLine := Nat.le_of_lt (small1000 h)
inductive Ty6 where | non | bl | int | str | lst | tup
def Ty6.nm : Ty6 → String
  | .non => "NoneType" | .bl => "bool" | .int => "int" | .str => "str" | .lst => "list" | .tup => "tuple"
def Ty6.isB : Ty6 → Bool | .bl => true | _ => false
def Ty6.isI : Ty6 → Bool | .bl => true | .int => true | _ => false
def Ty6.isT : Ty6 → Bool | .tup => true | _ => false
def Ty6.isS : Ty6 → Bool | .str => true | _ => false
inductive Kn (H : Hp) : V → Ty6 → Prop where
  | non : Kn H .non .non
  | bl (b : Bool) : Kn H (.bl b) .bl
  | int (i : Int) : Kn H (.int i) .int
  | str (x : Str) : Kn H (.str x) .str
  | lst {a : Addr} {xs : List V} (e : H a = some (.lst xs)) : Kn H (.ref a) .lst
  | tup {a : Addr} {xs : List V} (e : H a = some (.tup xs)) : Kn H (.ref a) .tup
theorem Kn.ty {K : PySem.W.Frag} {H : Hp} {x : V} {T : Ty6} (h : Kn H x T) : TyOf K H x (.type T.nm) := by
  cases h with
  | non => exact .non
  | bl b => exact .bl b
  | int i => exact .int i
  | str x => exact .str x
  | lst e => exact .lst e
  | tup e => exact .tup e
theorem Kn.same {H H' : Hp} {x : V} {T : Ty6} (s : Same H H') (h : Kn H x T) : Kn H' x T := by
  cases h with
  | non => exact .non
  | bl b => exact .bl b
  | int i => exact .int i
  | str x => exact .str x
  | lst e => exact .lst (s _ _ e)
  | tup e => exact .tup (s _ _ e)
theorem kit_bool {K : PySem.W.Frag} (T : Ty6) : ∀ u, RelV (.ty "bool") u → PySem.W.kitOne K (.type T.nm) u = some T.isB := fun u e => by cases e; cases T <;> kernel_rfl
theorem kit_int {K : PySem.W.Frag} (T : Ty6) : ∀ u, RelV (.ty "int") u → PySem.W.kitOne K (.type T.nm) u = some T.isI := fun u e => by cases e; cases T <;> kernel_rfl
end L2
set_option Elab.async false
set_option linter.all false
set_option maxRecDepth 100000
namespace L2
open PySem PySem.Spec PyProof.Rows
theorem SqT.upd {K : PySem.W.Frag} {H : Hp} {a D : Addr} {xs : List V} {o : HO} (h : SqT K H a xs) (hD : H D = none) : SqT K (upd H D o) a xs := (Same.new hD o).seqT h
theorem SqL.upd {K : PySem.W.Frag} {H : Hp} {a D : Addr} {xs : List V} {o : HO} (h : SqL K H a xs) (hD : H D = none) : SqL K (upd H D o) a xs := (Same.new hD o).seq h
theorem comp_map {J : It} {caps : List (Option Nat)} {j : Nat} {te : TE} {σ : St} {H1 : Hp} {D : Addr} {Q : VK} (n : Nat) (g f : Nat → V) (hn : n ≤ 100000)
    (hgo : ∀ i ys, i < n → J.go i (upd H1 D (.lst ys))) (hstop : ∀ ys, J.stop n (upd H1 D (.lst ys))) (hy : ∀ i ys x H3, i < n → J.yld i (upd H1 D (.lst ys)) x H3 → H3 = upd H1 D (.lst ys) ∧ x = g i)
    (hs : ∀ i ys Q', i < n → Q' (f i) (upd H1 D (.lst ys)) → te ((capOf caps σ).set j (some (g i))) (upd H1 D (.lst ys)) Q') (hq : Q (.ref D) (upd H1 D (.lst ((List.range n).map f)))) :
    CompW J caps j tYes te σ H1 D Q := by
  refine ⟨fun i m H2 => m = n - i ∧ i ≤ n ∧ H2 = upd H1 D (.lst ((List.range i).map f)), ⟨n, by simp, Nat.zero_le _, rfl⟩, ?_⟩
  rintro i m H2 ⟨rfl, hi, rfl⟩
  by_cases hlt : i < n
  · refine .inr ⟨hgo i _ hlt, fun x H3 hx => ?_⟩
    obtain ⟨rfl, rfl⟩ := hy i _ x H3 hlt hx
    unfold tYes
    dsimp only
    rw [if_pos rfl]
    refine hs i _ _ hlt ⟨_, upd_same, ?_, n - (i + 1), by omega, rfl, hlt, ?_⟩
    · rw [List.length_map, List.length_range]
      exact Nat.lt_of_lt_of_le hlt (Nat.le_trans hn (by decide))
    · rw [upd_upd, List.range_succ, List.map_append]
      rfl
  · have e : i = n := by omega
    subst e
    exact .inl ⟨hstop _, hq⟩
theorem range_getD {xs : List V} (f : V → V) : (List.range xs.length).map (fun i => f (xs.getD i .non)) = xs.map f := by
  apply List.ext_getElem?
  intro i
  rw [List.getElem?_map, List.getElem?_map]
  by_cases h : i < xs.length
  · rw [List.getElem?_range h, List.getElem?_eq_getElem h]
    simp [List.getD, h]
  · rw [List.getElem?_eq_none (by rw [List.length_range]; exact Nat.le_of_not_lt h), List.getElem?_eq_none (Nat.le_of_not_lt h)]; rfl
theorem comp_list {K : PySem.W.Frag} {a : Addr} {xs : List V} {caps : List (Option Nat)} {j : Nat} {te : TE} {σ : St} {H1 : Hp} {D : Addr} {Q : VK} (f : V → V) (hS : SqL K H1 a xs) (hD : H1 D = none) (hn : xs.length ≤ 100000)
    (hs : ∀ x ys Q', x ∈ xs → Q' (f x) (upd H1 D (.lst ys)) → te ((capOf caps σ).set j (some x)) (upd H1 D (.lst ys)) Q') (hq : Q (.ref D) (upd H1 D (.lst (xs.map f)))) :
    CompW (Itl K a) caps j tYes te σ H1 D Q := by
  refine comp_map xs.length (fun i => xs.getD i .non) (fun i => f (xs.getD i .non)) hn (fun i ys hi => ⟨xs, xs[i], hS.upd hD, by simp [hi]⟩) (fun ys => ⟨xs, hS.upd hD, Nat.le_refl _⟩) (fun i ys x H3 hi hx => ?_) (fun i ys Q' hi hQ => ?_) (by rw [range_getD]; exact hq)
  · obtain ⟨e, z⟩ := hx
    have := z xs (hS.upd hD)
    refine ⟨e, ?_⟩
    rw [List.getElem?_eq_getElem hi] at this
    rw [← Option.some.inj this]
    simp [List.getD, hi]
  · have e : xs.getD i .non = xs[i] := by simp [List.getD, hi]
    rw [e] at hQ ⊢
    exact hs _ ys Q' (List.getElem_mem hi) hQ
end L2
set_option Elab.async false
set_option linter.all false
set_option maxRecDepth 100000
namespace L2
open PySem PySem.Spec PyProof.Rows
theorem comp_rangeG {lo : Int} {n : Nat} {caps : List (Option Nat)} {j : Nat} {te : TE} {σ : St} {H1 : Hp} {D : Addr} {Q : VK} (R : Nat → V → Prop) (hD : H1 D = none) (hn : n ≤ 100000)
    (hs : ∀ (i : Nat) ys H2 Q', i < n → Same H1 H2 → H2 D = some (.lst ys) → (∀ v H3, R i v → Same H2 H3 → Q' v H3) → te ((capOf caps σ).set j (some (.int (lo + i)))) H2 Q')
    (hq : ∀ H2 ys, Same H1 H2 → H2 D = some (.lst ys) → ys.length = n → (∀ i y, ys[i]? = some y → R i y) → Q (.ref D) H2) :
    CompW (Itr lo n) caps j tYes te σ H1 D Q := by
  refine ⟨fun i m H2 => m = n - i ∧ i ≤ n ∧ Same H1 H2 ∧ ∃ ys, H2 D = some (.lst ys) ∧ ys.length = i ∧ ∀ k y, ys[k]? = some y → R k y, ⟨n, by simp, Nat.zero_le _, Same.new hD _, [], upd_same, rfl, fun k y e => by simp at e⟩, ?_⟩
  rintro i m H2 ⟨rfl, hi, sm, ys, hys, hl, hR⟩
  by_cases hlt : i < n
  · refine .inr ⟨hlt, fun x H3 hx => ?_⟩
    obtain ⟨rfl, rfl⟩ := hx
    unfold tYes
    dsimp only
    rw [if_pos rfl]
    refine hs i ys _ _ hlt sm hys fun v H3 rv s3 => ⟨ys, s3 _ _ hys, ?_, n - (i + 1), by omega, rfl, hlt, (sm.trans s3).upd hD (s3 _ _ hys) _, ys ++ [v], upd_same, by simp [hl], fun k y e => ?_⟩
    · rw [hl]
      exact Nat.lt_of_lt_of_le hlt (Nat.le_trans hn (by decide))
    · by_cases hk : k < ys.length
      · rw [List.getElem?_append_left hk] at e
        exact hR k y e
      · rw [List.getElem?_append_right (by omega)] at e
        by_cases hk2 : k = ys.length
        · subst hk2
          simp at e
          subst e
          rw [hl]
          exact rv
        · rw [List.getElem?_eq_none (by simp; omega)] at e
          cases e
  · have e : i = n := by omega
    subst e
    exact .inl ⟨Nat.le_refl _, hq H2 ys sm hys hl hR⟩
theorem ix_listK {X : Cx} {K : PySem.W.Frag} (h : X.K = K) : IxR X (rIxL K) := h ▸ ix_list
end L2
set_option Elab.async false
set_option linter.all false
set_option maxRecDepth 100000
namespace L2
open PySem PySem.Spec PyProof.Rows
def visOk (sc : Scope) (x : Str) : Bool := (decide (sc.names.lookup x = some .local) || decide (sc.names.lookup x = some .cell) || decide (sc.names.lookup x = some .free)) && !(x == ("__debug__" : Str)) && !(x == ("__classdict__" : Str))
def locOk (sc : Scope) (x : Str) : Bool := decide (sc.names.lookup x = some .local) || decide (sc.names.lookup x = some .cell)
def gloOk (sc : Scope) (x : Str) : Bool := decide (sc.names.lookup x = some .globalImplicit) && !(x == ("__debug__" : Str)) && !(decide (x = ("__name__" : Str)))
structure Vs (N : List Str) (sc : Scope) : Prop where
  vis : ∀ (i : Nat) (x : Str), N[i]? = some x → Vis sc x
  dbg : ∀ (i : Nat) (x : Str), N[i]? = some x → (x == ("__debug__" : Str)) = false
  cdt : ∀ (i : Nat) (x : Str), N[i]? = some x → (x == ("__classdict__" : Str)) = false
structure Ls (N : List Str) (sc : Scope) : Prop where
  nd : N.Nodup
  loc : ∀ (i : Nat) (x : Str), N[i]? = some x → Loc sc x
structure Gs (N : List Str) (sc : Scope) : Prop where
  gl : ∀ (i : Nat) (x : Str), N[i]? = some x → sc.names.lookup x = some .globalImplicit
  dbg : ∀ (i : Nat) (x : Str), N[i]? = some x → (x == ("__debug__" : Str)) = false
  nn : ∀ (i : Nat) (x : Str), N[i]? = some x → x ≠ ("__name__" : Str)
theorem all_at {N : List Str} {p : Str → Bool} (h : N.all p = true) {i : Nat} {x : Str} (e : N[i]? = some x) : p x = true := List.all_eq_true.mp h x (List.mem_of_getElem? e)
theorem Vs.of {N : List Str} {sc : Scope} (h : N.all (visOk sc) = true) : Vs N sc := by
  have k : ∀ (i : Nat) (x : Str), N[i]? = some x → Vis sc x ∧ (x == ("__debug__" : Str)) = false ∧ (x == ("__classdict__" : Str)) = false := fun i x e => by
    have := all_at h e
    simp only [visOk, Bool.and_eq_true, Bool.or_eq_true, decide_eq_true_eq, Bool.not_eq_true'] at this
    obtain ⟨⟨a, b⟩, c⟩ := this
    exact ⟨by rcases a with (a | a) | a <;> simp [Vis, a], b, c⟩
  exact ⟨fun i x e => (k i x e).1, fun i x e => (k i x e).2.1, fun i x e => (k i x e).2.2⟩
theorem Ls.of {N : List Str} {sc : Scope} (nd : N.Nodup) (h : N.all (locOk sc) = true) : Ls N sc := ⟨nd, fun i x e => by
  have := all_at h e
  simp only [locOk, Bool.or_eq_true, decide_eq_true_eq] at this
  exact this⟩
theorem Gs.of {N : List Str} {sc : Scope} (h : N.all (gloOk sc) = true) : Gs N sc := by
  have k : ∀ (i : Nat) (x : Str), N[i]? = some x → sc.names.lookup x = some .globalImplicit ∧ (x == ("__debug__" : Str)) = false ∧ x ≠ ("__name__" : Str) := fun i x e => by
    have := all_at h e
    simp only [gloOk, Bool.and_eq_true, decide_eq_true_eq, Bool.not_eq_true', decide_eq_false_iff_not] at this
    exact ⟨this.1.1, this.1.2, this.2⟩
  exact ⟨fun i x e => (k i x e).1, fun i x e => (k i x e).2.1, fun i x e => (k i x e).2.2⟩
theorem relabel_fwd {env : Env} : ∀ {names : List (Str × NameKind)} {x : Str} {k : NameKind}, names.lookup x = some k →
    (names.map fun (n, k) => if (k == NameKind.free && env.scope.kind == .function && env.kindOf n == some .cell) then (n, NameKind.cell) else (n, k)).lookup x = some k ∨
    (k = .free ∧ (names.map fun (n, k) => if (k == NameKind.free && env.scope.kind == .function && env.kindOf n == some .cell) then (n, NameKind.cell) else (n, k)).lookup x = some .cell)
  | [], _, _, h => by simp at h
  | (n, k') :: r, x, k, h => by
    have ih := @relabel_fwd env r x k
    rw [List.map_cons]
    rw [List.lookup_cons] at h
    by_cases hc : (k' == NameKind.free && env.scope.kind == .function && env.kindOf n == some .cell) = true
    · have e : (match (n, k') with | (n, k) => if (k == NameKind.free && env.scope.kind == .function && env.kindOf n == some .cell) = true then (n, NameKind.cell) else (n, k)) = (n, NameKind.cell) := by dsimp only; rw [if_pos hc]
      rw [e, List.lookup_cons]
      cases hx : x == n with
      | true =>
        rw [hx] at h
        cases h
        simp only [Bool.and_eq_true, beq_iff_eq] at hc
        exact .inr ⟨hc.1.1, rfl⟩
      | false => rw [hx] at h; exact ih h
    · have e : (match (n, k') with | (n, k) => if (k == NameKind.free && env.scope.kind == .function && env.kindOf n == some .cell) = true then (n, NameKind.cell) else (n, k)) = (n, k') := by dsimp only; rw [if_neg hc]
      rw [e, List.lookup_cons]
      cases hx : x == n with
      | true => rw [hx] at h; exact .inl h
      | false => rw [hx] at h; exact ih h
theorem Vs.re {N : List Str} {sc : Scope} (V : Vs N sc) (env : Env) : Vs N (relabel sc env) := ⟨fun i x e => by
  rcases V.vis i x e with h | h | h
  · rcases relabel_fwd (env := env) h with q | q
    · exact .inl q
    · exact absurd q.1 (by decide)
  · rcases relabel_fwd (env := env) h with q | q
    · exact .inr (.inl q)
    · exact absurd q.1 (by decide)
  · rcases relabel_fwd (env := env) h with q | q
    · exact .inr (.inr q)
    · exact .inr (.inl q.2), V.dbg, V.cdt⟩
theorem Gs.re {N : List Str} {sc : Scope} (V : Gs N sc) (env : Env) : Gs N (relabel sc env) := ⟨fun i x e => by
  rcases relabel_fwd (env := env) (V.gl i x e) with q | q
  · exact q
  · exact absurd q.1 (by decide), V.dbg, V.nn⟩
section
variable {X : Cx} {N L : List Str} {sc : Scope} {x : Str} {pos p : Pos}
theorem glX (G : Gs L sc) {i : Nat} (hL : L[i]? = some x) (h2 : X.env.scope = sc) : Gl X x := by
  unfold Gl Env.kindOf
  rw [h2]
  exact G.gl i x hL
theorem vn (V : Vs N sc) (i : Nat) (hN : N[i]? = some x := by rfl) (h1 : X.N = N := by rfl) (h2 : X.env.scope = sc := by rfl) : PE X (.Name x pos) (tVar i) := by
  subst h1 h2
  exact pe_var hN (V.vis i x hN) (V.dbg i x hN) (V.cdt i x hN)
theorem set_v {i : Nat} {e : Expr} {te : TE} {pos' : Pos} (Lc : Ls N sc) (he : PE X e te) (hi : N[i]? = some x := by rfl) (h1 : X.N = N := by rfl) (h2 : X.env.scope = sc := by rfl) (hs : swapsWith e (some (.Name x pos')) pos.line X.env = pure false := by rfl) (hf : X.fn x = true := by rfl) :
    PS X (.Assign [.Name x pos'] e pos) (tAsg te (gName i)) := by
  subst h1 h2
  exact ps_set Lc.nd hi (Lc.loc i x hi) he hs (.inl hf)
theorem tgt_v {i : Nat} (Lc : Ls N sc) (hi : N[i]? = some x := by rfl) (h1 : X.N = N := by rfl) (h2 : X.env.scope = sc := by rfl) (hf : X.fn x = true := by rfl) : PG X (.Name x pos) (gName i) := by
  subst h1 h2
  exact pg_name Lc.nd hi (Lc.loc i x hi) (.inl hf)
theorem cB {i : Nat} {id : String} {r : List V → Hp → VK → Prop} {e : Expr} {es : List Expr} {t : TA} (G : Gs L sc) (hc : CallR X (.builtin id) r) (hm : X.mg x = none) (hv : bootBuiltins x = some (.builtin id)) (ha : PA X (e :: es) t) (hL : L[i]? = some x := by rfl) (h2 : X.env.scope = sc := by rfl)
    (he : starEach (e :: es) X.env = (false, eval e X.env) :: starEach es X.env := by rfl) (hpl : (backTo pos (starEach es X.env)).any (·.1) = false := by rfl) : PE X (.Call (.Name x p) (e :: es) [] pos) (tCB r t) :=
  pe_callB hc (glX G hL h2) hm hv ha (G.nn i x hL) (G.dbg i x hL) he hpl
theorem cTy {i : Nat} {T : String} {r : List V → Hp → VK → Prop} {e : Expr} {es : List Expr} {t : TA} (G : Gs L sc) (hc : CallR X (.type T) r) (hm : X.mg x = none) (hv : bootBuiltins x = some (.type T)) (ha : PA X (e :: es) t) (hL : L[i]? = some x := by rfl) (h2 : X.env.scope = sc := by rfl)
    (he : starEach (e :: es) X.env = (false, eval e X.env) :: starEach es X.env := by rfl) (hpl : (backTo pos (starEach es X.env)).any (·.1) = false := by rfl) : PE X (.Call (.Name x p) (e :: es) [] pos) (tCB r t) :=
  pe_callTy hc (glX G hL h2) hm hv ha (G.nn i x hL) (G.dbg i x hL) he hpl
theorem cOwn {i : Nat} {c : Bool} {k : Nat} {ps : List Str} {sp : Sp} {E : XK} {e : Expr} {es : List Expr} {t : TA} (G : Gs L sc) (O : Own X.prog X.w X.K X.mg X.base c k x ps sp) (hr : Room k X.A) (hx : Passes (CX1 X.prog X.w) X E) (ha : PA X (e :: es) t) (hL : L[i]? = some x := by rfl) (h2 : X.env.scope = sc := by rfl)
    (hca : c = true → X.calm = true := by first | exact fun h => h | exact fun _ => rfl | exact fun h => nomatch h) (he : starEach (e :: es) X.env = (false, eval e X.env) :: starEach es X.env := by rfl) (hpl : (backTo pos (starEach es X.env)).any (·.1) = false := by rfl) :
    PE X (.Call (.Name x p) (e :: es) [] pos) (tCall sp [] E t) :=
  pe_own O hr hx ha hca (glX G hL h2) (G.dbg i x hL) he hpl
theorem nTy {i : Nat} {n : String} (G : Gs L sc) (hm : X.mg x = none) (hv : bootBuiltins x = some (.type n)) (hL : L[i]? = some x := by rfl) (h2 : X.env.scope = sc := by rfl) : PE X (.Name x pos) (tC (.ty n)) :=
  pe_ty hm hv (glX G hL h2) (G.nn i x hL) (G.dbg i x hL)
theorem nCls {i : Nat} {C : Addr} (G : Gs L sc) (hm : X.mg x = some (.ref C)) (hL : L[i]? = some x := by rfl) (h2 : X.env.scope = sc := by rfl) : PE X (.Name x pos) (tC (.ref C)) :=
  pe_cls hm (glX G hL h2) (G.dbg i x hL)
theorem nCon {i : Nat} {v : V} (G : Gs L sc) (h : ∃ u, X.mg x = some u ∧ RelV v u) (hL : L[i]? = some x := by rfl) (h2 : X.env.scope = sc := by rfl) : PE X (.Name x pos) (tC v) :=
  pe_const h (glX G hL h2) (G.dbg i x hL)
theorem iR1 {i : Nat} {tg a : Expr} {ta : TA} (G : Gs L sc) (hm : X.mg "range" = none) (ha : PA X [a] ta) (hL : L[i]? = some "range" := by rfl) (h2 : X.env.scope = sc := by rfl) (hs : starEach [a] X.env = [(false, eval a X.env)] := by rfl) : PI X tg (.Call (.Name "range" p) [a] [] pos) (iRng1 ta) :=
  pi_range1 (glX G hL h2) hm ha hs
theorem iR2 {i : Nat} {tg a b : Expr} {ta : TA} (G : Gs L sc) (hm : X.mg "range" = none) (ha : PA X [a, b] ta) (hL : L[i]? = some "range" := by rfl) (h2 : X.env.scope = sc := by rfl) (hs : starEach [a, b] X.env = [(false, eval a X.env), (false, eval b X.env)] := by rfl) (hs2 : starEach [b] X.env = [(false, eval b X.env)] := by rfl) :
    PI X tg (.Call (.Name "range" p) [a, b] [] pos) (iRng2 ta) :=
  pi_range2 (glX G hL h2) hm ha hs hs2
theorem rse {i : Nat} {E : XK} {C : Addr} {e : Expr} {es : List Expr} {t : TA} {np cpos : Pos} (G : Gs L sc) (hm : X.mg x = some (.ref C)) (hE : ExcC X.K C) (ha : PA (Xw X E) (e :: es) t) (hc : X.calm = true := by rfl) (hL : L[i]? = some x := by rfl) (h2 : X.env.scope = sc := by rfl)
    (he : starEach (e :: es) X.env = (false, eval e X.env) :: starEach es X.env := by rfl) (hpl : (backTo cpos (starEach es X.env)).any (·.1) = false := by rfl) :
    PS (Xw X E) (.Raise (some (.Call (.Name x np) (e :: es) [] cpos)) none pos) (tRaise E C t) :=
  ps_raise hc (glX G hL h2) hm hE ha (G.dbg i x hL) he hpl
theorem tryx {j i : Nat} {n : Str} {E : XK} {body : List Stmt} {b₀ : Stmt} {suite : List Stmt} {CE : Addr} {tb : XK → TS} {th : TS} {np hpos : Pos} (G : Gs L sc) (Lc : Ls N sc) (Dx : DefCx X) (h0 : X.hx = none)
    (hb : ∀ (E1 : XK) (pn : List (Addr × Obj)), PSs (Xw (X.pin pn) E1) body (tb E1)) (hm : X.mg x = some (.ref CE))
    (hh : ∀ (a : Addr) (o : Obj) (pn : List (Addr × Obj)), PSs (hdCx (X.pin pn) a o) (b₀ :: suite) th) (hn : N[i]? = some n := by rfl) (hl : sc.names.lookup n = some .local := by decide +kernel) (hL : L[j]? = some x := by rfl) (h1 : X.N = N := by rfl) (h2 : X.env.scope = sc := by rfl) :
    PS (Xw X E) (.Try body [.ExceptHandler (some (.Name x np)) (some n) (b₀ :: suite) hpos] [] [] pos) (tTry X.K X.N.length i CE tb th) := by
  subst h1
  exact ps_try Dx h0 hb (glX G hL h2) hm Lc.nd hn (by rw [h2]; exact hl) hh (G.dbg j x hL)
theorem cmp {elt iter : Expr} {px : Pos} {ifs : List Expr} {scope : Scope} {Nc Lc : List Str} {caps : List (Option Nat)} {j : Nat} {wi : TI} {ti : TT} {te : TE} (S : CompSc N sc scope Nc caps j x)
    (hi : PI X (.Name x px) iter wi) (hif : ∀ cl C fp pn s₀ H₀, Vs Nc (relabel scope X.env) → Gs Lc (relabel scope X.env) → PF (compCx X scope Nc cl C fp pn s₀ H₀) ifs ti) (he : ∀ cl C fp pn s₀ H₀, Vs Nc (relabel scope X.env) → Gs Lc (relabel scope X.env) → PE (compCx X scope Nc cl C fp pn s₀ H₀) elt te)
    (hV : Nc.all (visOk scope) = true := by decide +kernel) (hG : Lc.all (gloOk scope) = true := by decide +kernel) (hN : X.N = N := by rfl) (hS : X.env.scope = sc := by rfl) (hs : ∀ y, foldedSetIterable iter X.env y = pure y := by intro _; rfl) :
    PE X (.ListComp elt [⟨.Name x px, iter, ifs, 0⟩] scope pos) (tComp wi caps j ti te) :=
  pe_comp S hi (fun cl C fp pn s₀ H₀ => hif cl C fp pn s₀ H₀ ((Vs.of hV).re _) ((Gs.of hG).re _)) (fun cl C fp pn s₀ H₀ => he cl C fp pn s₀ H₀ ((Vs.of hV).re _) ((Gs.of hG).re _)) hN hS hs
end
end L2
set_option Elab.async false
set_option linter.all false
set_option maxRecDepth 100000
namespace L2
open PySem PySem.Spec PyProof.Rows
section
variable {X : Cx} {pins : List (Addr × Obj)} {σ : St} {H : Hp} {s : Shared}
theorem Inv.turnedL {h' : Heap} {t' : Nat} {fp : List Addr} (I : Inv X pins σ H s) (k : ∀ b o, b ∉ fp → s.heap.get? b = some o → h'.get? b = some o) (hf : ∀ b ∈ fp, FpOk X pins H b) : Inv X pins σ H { s with heap := h', toks := t' } := by
  have nit : ∀ b u, H b = some u → b ∉ fp := fun b u e z => by rw [(hf b z).1] at e; cases e
  refine I.step (g' := s.gens) (d' := s.drawn) (ch := fp) (fun b hb => ?_) (fun b o _ _ hc e _ => k b o hc e) (fun b o _ _ hc e _ => ⟨o.slots, k b o hc e⟩) (fun _ _ _ _ n => n)
    (fun b o hc e => ⟨o, k b o hc e⟩) (fun _ _ e => e) (fun _ _ _ e => e) (fun b ps e => ⟨#[], by rw [e]; simp⟩) (fun m hm => ?_) (fun b u e => ?_) I.bare
  · obtain ⟨_, f1, _, f3, f4, f5⟩ := hf b hb
    exact ⟨f3, f1, f4, f5⟩
  · obtain ⟨o, es, ep, ho, r⟩ := hm
    exact ⟨o, es, ep, k _ o (fun z => (hf _ z).2.1 rfl) ho, r⟩
  · refine (I.hok b u e).stay (fun c v hc q => k c v ?_ q) (fun _ q => q) fun _ _ q => q
    rcases hc with z | z
    · rw [z]; exact nit b u e
    · exact nit c _ z
theorem Inv.know {a : Addr} {u0 : HO} (I : Inv X pins σ H s) (hn : H a = none) (hs : X.s₀.heap.objs.size ≤ a) (hL : a ≠ X.env.locals) (hC : ∀ x c, X.env.cells.lookup x = some c → c ≠ a) (hP : ∀ p ∈ X.pn ++ pins, p.1 ≠ a)
    (hu : ObjOk X.prog X.w (upd H a u0) s.heap a u0) : Inv X pins σ (upd H a u0) s := by
  have ne : ∀ b u, H b = some u → b ≠ a := fun b u e z => by rw [z, hn] at e; cases e
  have st : ∀ b u, H b = some u → upd H a u0 b = some u := fun b u e => by rw [upd_ne (ne b u e)]; exact e
  have fr : ∀ b, b ≠ a → H b = none → upd H a u0 b = none := fun b z e => by rw [upd_ne z]; exact e
  refine ⟨I.ok, I.os, I.bare, ⟨I.base.keep, I.base.slot, fun b ob q n hx => fr b (fun z => by rw [z] at q; exact absurd (Heap.lt_size q) (Nat.not_lt_of_le hs)) (I.base.free b ob q n hx), I.base.there, fun b xs q => st b _ (I.base.tups b xs q), fun b ob u q => st b _ (I.base.frzs b ob u q), fun b ps q => ?_⟩,
    I.loc, I.cell, fr _ (Ne.symm hL) I.free, fun x c e => fr c (hC x c e) (I.freeC x c e), fun p hp => ?_, fun b u e => ?_, I.len, fun b ob e => ?_⟩
  · obtain ⟨more, e⟩ := I.base.tbls b ps q
    exact ⟨more, st b _ e⟩
  · obtain ⟨e, n, r⟩ := I.pin p hp
    exact ⟨e, fr _ (hP p hp) n, r⟩
  · by_cases hb : b = a
    · subst hb
      rw [upd_same] at e
      cases e
      exact hu
    · rw [upd_ne hb] at e
      exact (I.hok b u e).stay (fun c v _ q => q) (fun c q => st c _ q) fun c xs q => st c _ q
  · obtain ⟨u, z⟩ := I.hxs b ob e
    exact ⟨u, st b _ z⟩
theorem Inv.pair {h' : Heap} {t' : Nat} {fp : List Addr} {x y : V} {u v : Value} (I : Inv X pins σ H s) (k : ∀ b o, b ∉ fp → s.heap.get? b = some o → h'.get? b = some o) (hf : ∀ b ∈ fp, FpOk X pins H b)
    (ht : h'.get? s.heap.objs.size = some { cls := .type "tuple", data := .seq #[u, v] }) (rx : RelV x u) (ry : RelV y v) : Inv X pins σ (upd H s.heap.objs.size (.tup [x, y])) { s with heap := h', toks := t' } := by
  have I1 : Inv X pins σ H { s with heap := h', toks := t' } := I.turnedL k hf
  have F := I.fpOk (b := s.heap.objs.size) (Nat.le_refl _) (I.hok.fresh (Nat.le_refl _))
  obtain ⟨f0, f1, f2, f3, f4, f5⟩ := F
  refine I1.know f0 I.sz f1 f4 f5 ?_
  exact ⟨by show 2 ≤ sizeLine; decide, [u, v], .cons rx (.cons ry .nil), _, ht, rfl, _, rfl⟩
end
def Ite (K : PySem.W.Frag) (a : Addr) : It :=
  ⟨fun i H => ∃ xs x, SqL K H a xs ∧ xs[i]? = some x, fun i H x H' => ∃ p y, x = .ref p ∧ H p = none ∧ H' = upd H p (.tup [.int i, y]) ∧ ∀ xs, SqL K H a xs → xs[i]? = some y, fun i H => ∃ xs, SqL K H a xs ∧ xs.length ≤ i⟩
theorem turn_enum {P : Program} {w : World} {K : PySem.W.Frag} {es : List Expr} {kt : Nat} {pos : Pos} (a e it : Addr) (hne : e ≠ it) : Turn P w K none (.Tuple es kt pos) (Ite K a) [e, it] e (fun i h => ∃ old, IsEnum h e it i old ∧ h.IsListIter it a i) where
  mem := by simp
  obj := fun i h st b hb => by
    obtain ⟨old, he, hit⟩ := st
    rcases List.mem_cons.mp hb with z | z
    · subst z
      exact ⟨_, he, fun v z => by
        have z' : Data.fields _ = Data.cell v := z
        cases z'⟩
    · have z' : b = it := by simpa using z
      subst z'
      obtain ⟨o, q, c, d⟩ := hit
      exact ⟨o, q, fun v z => by rw [d] at z; cases z⟩
  keep := fun i h h' st k => by
    obtain ⟨old, he, hit⟩ := st
    exact ⟨old, k e (by simp) _ he, hit.at fun o q => k it (by simp) o q⟩
  item := by
    intro X hP hw hK hA i pins s σ H E I hf st hg
    subst hP hw hK
    obtain ⟨old, he, hit⟩ := st
    obtain ⟨xs, x, hq, hx⟩ := hg
    obtain ⟨its, rv, p, hz⟩ := I.list hq
    obtain ⟨u, hu, ru⟩ := rv.get hx
    have hel : s.heap.objs.size ≠ e := Nat.ne_of_gt (Heap.lt_size he)
    refine wpAny_pyNext_enum_item he hit p.isList (x := u) (by simpa using hu) hne fun h' eo hit' ht hsz kk => ⟨_, rfl, ?_⟩
    refine wpAny_letOwnedTupleGo_enum eo fun h2 he2 sb => ?_
    refine ⟨.ref s.heap.objs.size, upd H s.heap.objs.size (.tup [.int i, x]), ?_, rfl, ⟨_, x, rfl, I.hok.fresh (Nat.le_refl _), rfl, fun ys hy => by rw [I.list_inj hy hq]; exact hx⟩, ⟨u, ?_, hit'.at fun o q => (sb.2 it (Ne.symm hne)).trans q⟩, fun b hb => ?_⟩
    · exact I.pair (fun b o hb q => (sb.2 b (fun z => hb (by simp [z]))).trans (kk b o (fun z => hb (by simp [z])) (fun z => hb (by simp [z])) q)) hf ((sb.2 _ hel).trans ht) ⟨_, rfl⟩ ru
    · exact he2
    · have hb' : b ≠ s.heap.objs.size := by
        rcases List.mem_cons.mp hb with z | z
        · rw [z]; exact hel.symm
        · have z' : b = it := by simpa using z
          obtain ⟨o, q, _⟩ := hit
          rw [z']; exact Nat.ne_of_lt (Heap.lt_size q)
      rw [upd_ne hb']
      exact (hf b hb).1
  done := by
    intro X hP hw hK hA i pins s σ H E I hf st hg
    subst hP hw hK
    obtain ⟨old, he, hit⟩ := st
    obtain ⟨xs, hq, hx⟩ := hg
    obtain ⟨its, rv, p, hz⟩ := I.list hq
    have hl := rv.length
    exact wpAny_pyNext_enum_end hA he hit p.isList (by simp; omega) fun h' eb => ⟨rfl, I.turnedL (t' := s.toks) (fun b o hb q => eb b o (fun z => hb (by simp [z])) q) hf⟩
  self := fun _ _ _ _ _ ⟨_, he, _⟩ h => wpAny_pyIter_enum he h
theorem bt_enumerate : bootBuiltins "enumerate" = some (.type "enumerate") := by decide +kernel
def iEnum (K : PySem.W.Frag) (ta : TA) : TI := fun σ H R => ta σ H fun vs H1 => ∃ a, vs = [.ref a] ∧ (∃ xs, SqL K H1 a xs) ∧ R (Ite K a) H1
section
variable {X : Cx} {es : List Expr} {kt : Nat} {pt : Pos}
theorem pi_enum {l : Expr} {ta : TA} {p pos : Pos} (hc : X.calm = true) (hg : Gl X "enumerate") (hm : X.mg "enumerate" = none) (ha : PA X [l] ta) (hs : starEach [l] X.env = [(false, eval l X.env)] := by rfl) : PI X (.Tuple es kt pt) (.Call (.Name "enumerate" p) [l] [] pos) (iEnum X.K ta) := by
  constructor
  intro pins s σ H R I h
  refine Call_ (ld_blt I hg hm bt_enumerate (PyProof.Rows.callWith_type1 (thn (ha pos pins s σ H _ I h) fun us s1 ⟨vs, H1, I1, r1, q1⟩ => ?_) hs rfl))
  obtain ⟨a, e, ⟨xs, hq⟩, q⟩ := q1
  subst e
  cases r1 with
  | cons r rr =>
    cases rr
    cases r
    obtain ⟨its, rv, pl, hz⟩ := I1.list hq
    refine call_enumerate_list pl.isList fun h' he hit hsz kp => wpAny_pyIter_enum he ?_
    have I2 : Inv X pins σ H1 { s1 with heap := h' } := I1.kept (t' := s1.toks) kp
    have hd : X.A.handled = none := I1.ok.hd hc
    refine ⟨s1.heap.objs.size + 1, [s1.heap.objs.size + 1, s1.heap.objs.size], (fun i h => ∃ old, IsEnum h (s1.heap.objs.size + 1) s1.heap.objs.size i old ∧ h.IsListIter s1.heap.objs.size a i), Ite X.K a, H1, rfl, I2, by rw [hd]; exact turn_enum a _ _ (Nat.succ_ne_self _), ⟨_, he, hit⟩, fun b hb => ?_, q⟩
    have hb' : s1.heap.objs.size ≤ b := by
      rcases List.mem_cons.mp hb with z | z
      · rw [z]; exact Nat.le_succ _
      · have z' : b = s1.heap.objs.size := by simpa using z
        rw [z']; exact Nat.le_refl _
    exact I1.fpOk hb' (I1.hok.fresh hb')
end
def Itz (a b : Addr) : It :=
  ⟨fun i H => ∃ xs ys x y, H a = some (.lst xs) ∧ H b = some (.lst ys) ∧ xs[i]? = some x ∧ ys[i]? = some y, fun i H x H' => ∃ p y z, x = .ref p ∧ H p = none ∧ H' = upd H p (.tup [y, z]) ∧ (∀ xs, H a = some (.lst xs) → xs[i]? = some y) ∧ ∀ xs, H b = some (.lst xs) → xs[i]? = some z,
    fun i H => ∃ xs ys, H a = some (.lst xs) ∧ H b = some (.lst ys) ∧ (xs.length ≤ i ∨ ys.length ≤ i)⟩
def iZip (ta : TA) : TI := fun σ H R => ta σ H fun vs H1 => ∃ a b, vs = [.ref a, .ref b] ∧ (∃ xs, H1 a = some (.lst xs)) ∧ (∃ ys, H1 b = some (.lst ys)) ∧ R (Itz a b) H1
section
variable {X : Cx} {es : List Expr} {kt : Nat} {pt : Pos}
end
end L2
set_option Elab.async false
set_option linter.all false
set_option maxRecDepth 100000
namespace L2
open PySem PySem.Spec PyProof.Rows
section
variable {X : Cx}
def rEqT (K : PySem.W.Frag) : R2 := fun x y H Q => ∃ p q xs ys, x = .ref p ∧ y = .ref q ∧ SqT K H p xs ∧ SqT K H q ys ∧ xs.all flatV = true ∧ ys.all flatV = true ∧ Q (.bl (eqVs xs ys)) H
def rNeT (K : PySem.W.Frag) : R2 := fun x y H Q => ∃ p q xs ys, x = .ref p ∧ y = .ref q ∧ SqT K H p xs ∧ SqT K H q ys ∧ xs.all flatV = true ∧ ys.all flatV = true ∧ Q (.bl (!eqVs xs ys)) H
theorem eqVs_tup (xs ys : List V) : ((List.range (min xs.length ys.length)).all (fun i => eqV (xs.getD i .non) (ys.getD i .non)) && xs.length == ys.length) = eqVs xs ys := by
  by_cases h : xs.length = ys.length
  · rw [← h, Nat.min_self, eqVs_all h, beq_self_eq_true, Bool.and_true]
  · rw [eqVs_len h, beq_eq_false_iff_ne.mpr h, Bool.and_false]
theorem op_neT (hu : X.A.units < cLine) : OpR X (compareOp .NotEq) (rNeT X.K) := by
  intro pins s σ H x y v u Q I rx ry h
  obtain ⟨p, q, xs, ys, rfl, rfl, hx, hy, fx, fy, k⟩ := h
  cases rx
  cases ry
  obtain ⟨us, r, pl, _⟩ := I.tuple hx
  obtain ⟨ws, r', pl', _⟩ := I.tuple hy
  have l1 := r.length
  have l2 := r'.length
  refine SeqAt.RcNeAt.tuples (e := fun j => eqV (xs.getD j .non) (ys.getD j .non)) (show s.heap.IsTuple p us.toArray from pl) (show s.heap.IsTuple q ws.toArray from pl') hu (fun j h1 h2 => items_eqAt r r' fx fy j h1 h2) _ _ _ _ ⟨.bl _, H, I, rfl, ?_⟩
  rw [List.size_toArray, List.size_toArray, ← l1, ← l2, eqVs_tup]
  exact k
end
def Itd (lo : Int) (n : Nat) : It := ⟨fun i _ => i < n, fun i H x H' => H' = H ∧ x = .int (lo - i), fun i _ => n ≤ i⟩
def iRngD (ta : TA) : TI := fun σ H R => ta σ H fun vs H1 => ∃ i j : Int, vs = [.int i, .int j, .int (-1)] ∧ (-(2 ^ 62) ≤ i ∧ i < 2 ^ 62 ∧ -(2 ^ 62) ≤ j ∧ j < 2 ^ 62) ∧ R (Itd i (i - j).toNat) H1
section
variable {X : Cx} {tg : Expr}
def tLR (ta : TA) : TE := fun σ H Q => ta σ H fun vs H1 => ∃ i j : Int, vs = [.int i, .int j] ∧ (-(2 ^ 62) ≤ i ∧ i < 2 ^ 62 ∧ -(2 ^ 62) ≤ j ∧ j < 2 ^ 62) ∧ (j - i).toNat ≤ 100000 ∧ ∀ p, H1 p = none → Q (.ref p) (upd H1 p (.lst ((List.range (j - i).toNat).map fun k : Nat => V.int (i + (k : Int)))))
end
end L2
set_option Elab.async false
set_option linter.all false
set_option maxRecDepth 100000
namespace L2
open PySem PySem.Spec PyProof.Rows
section
variable {X : Cx} {N L : List Str} {sc : Scope} {x y : Str} {pos p : Pos}
theorem par_v {i j : Nat} {a b : Expr} {ta : TA} {px py pt : Pos} {kt k2 pt2} (Lc : Ls N sc) (ha : PA X [a, b] ta) (hc : X.calm = true := by rfl) (hi : N[i]? = some x := by rfl) (hj : N[j]? = some y := by rfl) (hij : i ≠ j := by decide)
    (hx : sc.names.lookup x = some .local := by decide +kernel) (hy : sc.names.lookup y = some .local := by decide +kernel) (h1 : X.N = N := by rfl) (h2 : X.env.scope = sc := by rfl)
    (hw : swappedStores [.Tuple [.Name x px, .Name y py] kt pt] (.Tuple [a, b] k2 pt2) X.env = pure (some [x, y]) := by rfl)
    (hs : swapsWithSole [.Tuple [.Name x px, .Name y py] kt pt] (.Tuple [a, b] k2 pt2) pos.line X.env = pure false := by rfl) :
    PS X (.Assign [.Tuple [.Name x px, .Name y py] kt pt] (.Tuple [a, b] k2 pt2) pos) (tPar i j ta) := by
  subst h1 h2
  exact ps_par hc Lc.nd hi hj hij hx hy ha hw hs
theorem iEn {i : Nat} {es : List Expr} {kt : Nat} {pt : Pos} {a : Expr} {ta : TA} (G : Gs L sc) (hm : X.mg "enumerate" = none) (ha : PA X [a] ta) (hc : X.calm = true := by rfl) (hL : L[i]? = some "enumerate" := by rfl) (h2 : X.env.scope = sc := by rfl) (hs : starEach [a] X.env = [(false, eval a X.env)] := by rfl) :
    PI X (.Tuple es kt pt) (.Call (.Name "enumerate" p) [a] [] pos) (iEnum X.K ta) :=
  pi_enum hc (glX G hL h2) hm ha hs
end
end L2
set_option Elab.async false
set_option linter.all false
set_option maxRecDepth 100000
namespace L2
open PySem PySem.Spec PyProof.Rows
section
variable {κ : Type} [DecidableEq κ]
def valV (kvs : List (κ × V)) (k : κ) : Option V := (kvs.find? fun kv => decide (kv.1 = k)).map (·.2)
def putK (kvs : List (κ × V)) (k : κ) (v : V) : List (κ × V) :=
  if (kvs.any fun kv => decide (kv.1 = k)) = true then kvs.map (fun kv => if kv.1 = k then (kv.1, v) else kv) else kvs ++ [(k, v)]
def dropK (kvs : List (κ × V)) (k : κ) : List (κ × V) := kvs.filter fun kv => decide (kv.1 ≠ k)
theorem valV_pos {p : κ × V} {r : List (κ × V)} {k : κ} (e : p.1 = k) : valV (p :: r) k = some p.2 := by simp [valV, List.find?_cons, e]
theorem valV_neg {p : κ × V} {r : List (κ × V)} {k : κ} (e : ¬ p.1 = k) : valV (p :: r) k = valV r k := by simp [valV, List.find?_cons, e]
theorem valV_any (k : κ) : ∀ kvs : List (κ × V), (kvs.any fun kv => decide (kv.1 = k)) = (valV kvs k).isSome
  | [] => rfl
  | p :: r => by
    rw [List.any_cons]
    by_cases e : p.1 = k
    · simp only [valV_pos e, decide_eq_true e, Bool.true_or, Option.isSome_some]
    · rw [valV_neg e, decide_eq_false e, Bool.false_or]; exact valV_any k r
theorem valV_map (k j : κ) (y : V) : ∀ kvs : List (κ × V), valV (kvs.map fun kv => if kv.1 = k then (kv.1, y) else kv) j = (valV kvs j).map fun x => if j = k then y else x
  | [] => rfl
  | p :: r => by
    have ih := valV_map k j y r
    rw [List.map_cons]
    by_cases h : p.1 = k
    · rw [if_pos h]
      by_cases e : p.1 = j
      · rw [valV_pos (p := (p.1, y)) e, valV_pos e, Option.map_some, if_pos (e.symm.trans h)]
      · rw [valV_neg (p := (p.1, y)) e, valV_neg e, ih]
    · rw [if_neg h]
      by_cases e : p.1 = j
      · rw [valV_pos (p := p) e, valV_pos e, Option.map_some, if_neg (fun z => h (e.trans z))]
      · rw [valV_neg (p := p) e, valV_neg e, ih]
theorem valV_snoc (k j : κ) (y : V) : ∀ kvs : List (κ × V), valV kvs k = none → valV (kvs ++ [(k, y)]) j = if j = k then some y else valV kvs j
  | [], _ => by
    by_cases e : k = j
    · rw [if_pos e.symm]; exact valV_pos (p := (k, y)) e
    · rw [if_neg (fun z => e z.symm)]; exact valV_neg (p := (k, y)) e
  | p :: r, hn => by
    rw [List.cons_append]
    have hk : ¬ p.1 = k := fun z => by rw [valV_pos z] at hn; cases hn
    rw [valV_neg hk] at hn
    have ih := valV_snoc k j y r hn
    by_cases e : p.1 = j
    · rw [valV_pos e, valV_pos e, if_neg (fun z => hk (e.trans z))]
    · rw [valV_neg e, valV_neg e, ih]
theorem valV_put (kvs : List (κ × V)) (k j : κ) (y : V) : valV (putK kvs k y) j = if j = k then some y else valV kvs j := by
  unfold putK
  by_cases a : (kvs.any fun kv => decide (kv.1 = k)) = true
  · rw [if_pos a, valV_map]
    rw [valV_any] at a
    by_cases e : j = k
    · obtain ⟨x, hx⟩ := Option.isSome_iff_exists.mp a
      rw [if_pos e, e, hx, Option.map_some, if_pos rfl]
    · rw [if_neg e]
      cases valV kvs j with
      | none => rfl
      | some x => rw [Option.map_some, if_neg e]
  · rw [if_neg a]
    refine valV_snoc k j y kvs ?_
    rw [valV_any] at a
    cases q : valV kvs k with
    | none => rfl
    | some x => rw [q] at a; exact (a rfl).elim
theorem length_putK (kvs : List (κ × V)) (k : κ) (v : V) : (putK kvs k v).length ≤ kvs.length + 1 := by
  unfold putK
  split
  · rw [List.length_map]; omega
  · rw [List.length_append, List.length_cons, List.length_nil]; omega
theorem putK_new {kvs : List (κ × V)} {k : κ} (v : V) (h : valV kvs k = none) : putK kvs k v = kvs ++ [(k, v)] := by
  unfold putK
  rw [valV_any, h]
  exact if_neg (by decide)
theorem RelO.getD {o : Option V} {u : Option Value} {d : V} {d' : Value} (r : RelO o u) (rd : RelV d d') : RelV (o.getD d) (u.getD d') := by
  cases o with
  | none => cases u with
    | none => exact rd
    | some _ => exact (show False from r).elim
  | some _ => cases u with
    | none => exact (show False from r).elim
    | some _ => exact r
theorem KV.val {kvs : List (κ × V)} {vs : List (κ × Value)} (r : KV kvs vs) (k : κ) : RelO (valV kvs k) (valueAt vs k) := by
  unfold KV at r
  induction r with
  | nil => exact True.intro
  | @cons p q ps qs h t ih =>
    obtain ⟨h1, h2⟩ := h
    by_cases e : p.1 = k
    · have e' : q.1 = k := h1.symm.trans e
      have b : valueAt (q :: qs) k = some q.2 := by simp [valueAt, List.find?_cons, e']
      rw [valV_pos e, b]; exact h2
    · have e' : ¬ q.1 = k := fun z => e (h1.trans z)
      have b : valueAt (q :: qs) k = valueAt qs k := by simp [valueAt, List.find?_cons, e']
      rw [valV_neg e, b]; exact ih
theorem KV.any {kvs : List (κ × V)} {vs : List (κ × Value)} (r : KV kvs vs) (k : κ) : (kvs.any fun kv => decide (kv.1 = k)) = vs.any fun kv => decide (kv.1 = k) := by
  unfold KV at r
  induction r with
  | nil => rfl
  | cons h t ih => rw [List.any_cons, List.any_cons, ih, h.1]
theorem KV.drop {kvs : List (κ × V)} {vs : List (κ × Value)} (r : KV kvs vs) (k : κ) : KV (dropK kvs k) (without vs k) := by
  unfold KV at r ⊢
  unfold dropK without
  induction r with
  | nil => exact .nil
  | @cons p q ps qs h t ih =>
    obtain ⟨h1, h2⟩ := h
    rw [List.filter_cons, List.filter_cons]
    by_cases e : p.1 = k
    · have a : ¬ decide (p.1 ≠ k) = true := by simp [e]
      have b : ¬ decide (q.1 ≠ k) = true := by simp [h1.symm.trans e]
      rw [if_neg a, if_neg b]; exact ih
    · have e' : ¬ q.1 = k := fun z => e (h1.trans z)
      have a : decide (p.1 ≠ k) = true := by simp [e]
      have b : decide (q.1 ≠ k) = true := by simp [e']
      rw [if_pos a, if_pos b]; exact .cons ⟨h1, h2⟩ ih
theorem KV.keys {kvs : List (κ × V)} {vs : List (κ × Value)} (r : KV kvs vs) : kvs.map (·.1) = vs.map (·.1) := by
  unfold KV at r
  induction r with
  | nil => rfl
  | cons h t ih => rw [List.map_cons, List.map_cons, ih, h.1]
theorem KV.length {kvs : List (κ × V)} {vs : List (κ × Value)} (r : KV kvs vs) : kvs.length = vs.length := Paired.length r
end
abbrev KT (H : Hp) : List (List Key × V) → List (List Key × Addr × Value) → Prop := Paired fun p q => p.1 = q.1 ∧ H q.2.1 = some (.tup (p.1.map kV)) ∧ RelV p.2 q.2.2
theorem KT.val {H : Hp} {kvs : List (List Key × V)} {xs : List (List Key × Addr × Value)} (r : KT H kvs xs) (k : List Key) : RelO (valV kvs k) ((atKey xs k).map (·.2)) := by
  induction r with
  | nil => exact True.intro
  | @cons p q ps qs h t ih =>
    obtain ⟨h1, _, h2⟩ := h
    by_cases e : p.1 = k
    · have e' : q.1 = k := h1.symm.trans e
      have b : atKey (q :: qs) k = some q.2 := by simp [atKey, List.find?_cons, e']
      rw [valV_pos e, b]; exact h2
    · have e' : ¬ q.1 = k := fun z => e (h1.trans z)
      have b : atKey (q :: qs) k = atKey qs k := by simp [atKey, List.find?_cons, e']
      rw [valV_neg e, b]; exact ih
theorem KT.keeps {H H' : Hp} {kvs : List (List Key × V)} {xs : List (List Key × Addr × Value)} (r : KT H kvs xs) (ht : ∀ b ys, H b = some (.tup ys) → H' b = some (.tup ys)) : KT H' kvs xs :=
  Paired.mapP r fun _ _ z => ⟨z.1, ht _ _ z.2.1, z.2.2⟩
section
variable {P : Program} {w : World} {H : Hp} {h : Heap} {a : Addr}
end
def DGet (H : Hp) (a : Addr) (y : V) (r : Option V) : Prop :=
  (∃ kvs k, Rd H a (.dK kvs) ∧ y = kV k ∧ r = valV kvs k) ∨ ∃ kvs k b, Rd H a (.dT kvs) ∧ y = .ref b ∧ H b = some (.tup (k.map kV)) ∧ r = valV kvs k
def DPut (H : Hp) (a : Addr) (y v : V) (H' : Hp) : Prop :=
  (∃ kvs k, H a = some (.dK kvs) ∧ y = kV k ∧ kvs.length < sizeLine ∧ H' = upd H a (.dK (putK kvs k v))) ∨
  ∃ kvs k b, H a = some (.dT kvs) ∧ y = .ref b ∧ H b = some (.tup (k.map kV)) ∧ kvs.length < sizeLine ∧ H' = upd H a (.dT (putK kvs k v))
theorem DGet.k {H : Hp} {a : Addr} {kvs : List (Key × V)} {k : Key} (e : H a = some (.dK kvs)) : DGet H a (kV k) (valV kvs k) := .inl ⟨kvs, k, .inl e, rfl, rfl⟩
theorem DGet.t {H : Hp} {a b : Addr} {kvs : List (List Key × V)} {k : List Key} (e : H a = some (.dT kvs)) (eb : H b = some (.tup (k.map kV))) : DGet H a (.ref b) (valV kvs k) := .inr ⟨kvs, k, b, .inl e, rfl, eb, rfl⟩
theorem DPut.k {H : Hp} {a : Addr} {kvs : List (Key × V)} {k : Key} {v : V} (e : H a = some (.dK kvs)) (hl : kvs.length < sizeLine) : DPut H a (kV k) v (upd H a (.dK (putK kvs k v))) := .inl ⟨kvs, k, e, rfl, hl, rfl⟩
theorem DPut.t {H : Hp} {a b : Addr} {kvs : List (List Key × V)} {k : List Key} {v : V} (e : H a = some (.dT kvs)) (eb : H b = some (.tup (k.map kV))) (hl : kvs.length < sizeLine) :
    DPut H a (.ref b) v (upd H a (.dT (putK kvs k v))) := .inr ⟨kvs, k, b, e, rfl, eb, hl, rfl⟩
section
variable {X : Cx} {pins : List (Addr × Obj)} {σ : St} {H : Hp} {s : Shared} {a : Addr} {y v : V} {u r : Value} {o : Option V} {A : Around} {E : Value → Shared → Prop}
theorem Inv.big (I : Inv X pins σ H s) : sysModules < s.heap.objs.size := by
  have h : mainGlobals < s.heap.objs.size := (I.mod.glob.keeps I.bk).lt
  exact Nat.lt_trans (by decide) h
end
section
variable {X : Cx} {pins : List (Addr × Obj)} {σ : St} {H : Hp} {s : Shared} {a : Addr} {kvs : List (Key × V)} {k : Key} {u : Value} {A : Around} {E : Value → Shared → Prop}
end
def NoSl (i : Expr) : Prop := ∀ ov iv, subscripted i false ov iv = operate [ov, iv] (getItem ov iv)
def tDGet (td ty : TE) : TE := fun σ H Q => td σ H fun x H1 => ty σ H1 fun y H2 => ∃ a v, x = .ref a ∧ DGet H2 a y (some v) ∧ Q v H2
def tDIn (ty td : TE) : TE := fun σ H Q => ty σ H fun y H1 => td σ H1 fun x H2 => ∃ a o, x = .ref a ∧ DGet H2 a y o ∧ Q (.bl o.isSome) H2
def tDNotIn (ty td : TE) : TE := fun σ H Q => ty σ H fun y H1 => td σ H1 fun x H2 => ∃ a o, x = .ref a ∧ DGet H2 a y o ∧ Q (.bl (!o.isSome)) H2
def sDPut (td ty tv : TE) : TS := fun D σ H => tv σ H fun v H1 => td σ H1 fun x H2 => ty σ H2 fun y H3 => ∃ a H4, x = .ref a ∧ DPut H3 a y v H4 ∧ D.nx σ H4
def sDAug (td ty tv : TE) (rd : V → V → Hp → VK → Prop) : TS := fun D σ H => td σ H fun x H1 => ty σ H1 fun y H2 => ∃ a v, x = .ref a ∧ DGet H2 a y (some v) ∧
  tv σ H2 fun y2 H3 => rd v y2 H3 fun z H4 => ∃ H5, DPut H4 a y z H5 ∧ D.nx σ H5
def sDDel (td ty : TE) : TS := fun D σ H => td σ H fun x H1 => ty σ H1 fun y H2 => ∃ a kvs k, x = .ref a ∧ H2 a = some (.dK kvs) ∧ y = kV k ∧ (valV kvs k).isSome = true ∧ D.nx σ (upd H2 a (.dK (dropK kvs k)))
section
variable {X : Cx} {o i e value : Expr} {pos pos' tpos : Pos} {td ty tv : TE}
end
def tDNewK : TE := fun _ H Q => ∀ p, H p = none → Q (.ref p) (upd H p (.dK []))
def tDNewT : TE := fun _ H Q => ∀ p, H p = none → Q (.ref p) (upd H p (.dT []))
section
variable {X : Cx} {pos : Pos}
end
def tPairs : List (TE × TE) → St → Hp → (List (V × V) → Hp → Prop) → Prop
  | [], _, H, Q => Q [] H
  | (tk, tv) :: r, σ, H, Q => tk σ H fun x H1 => tv σ H1 fun y H2 => tPairs r σ H2 fun ps H3 => Q ((x, y) :: ps) H3
abbrev VV : List (V × V) → List (Value × Value) → Prop := Paired fun p q => RelV p.1 q.1 ∧ RelV p.2 q.2
def PPs (X : Cx) (pos : Pos) (keys : List (Option Expr)) (values : List Expr) (trs : List (TE × TE)) : Prop :=
  ∀ (pins : List (Addr × Obj)) (s : Shared) (σ : St) (H : Hp) (Q : List (V × V) → Hp → Prop), Inv X pins σ H s → tPairs trs σ H Q →
    wpAny (model X.prog X.w) X.A (evalPairs (pairTrees keys values X.env pos)) (fun vs s' => ∃ ps H', Inv X pins σ H' s' ∧ VV ps vs ∧ Q ps H') X.xe s
def mergeK (kvs more : List (Key × V)) : List (Key × V) := more.foldl (fun acc kv => putK acc kv.1 kv.2) kvs
def tDisp (trs : List (TE × TE)) : TE := fun σ H Q => ∀ p, H p = none → tPairs trs σ (upd H p (.dK [])) fun ps H2 => H2 p = some (.dK []) ∧ ∃ kvs : List (Key × V), ps = kvs.map (fun kv => (kV kv.1, kv.2)) ∧ kvs.length ≤ 15 ∧ Q (.ref p) (upd H2 p (.dK (mergeK [] kvs)))
structure M1 (X : Cx) (o : Expr) (m : Str) (apos : Pos) (e : Expr) (cpos : Pos) : Prop where
  base : attributeBase o m X.env (eval o X.env) = eval o X.env
  few : ((backTo cpos (starEach [e] X.env)).all (fun x => !x.1) && (backToKw cpos (keywordEach [] X.env)).all (fun x => x.1.isSome)
    && decide (([e] : List Expr).length + ([] : List Keyword).length + (if ([] : List Keyword).isEmpty then 0 else 1) < 30)) = true
  line : (apos.endLine == cpos.line) = true
  trees : backTo cpos (starEach [e] X.env) = [(false, eval e X.env)]
structure M2 (X : Cx) (o : Expr) (m : Str) (apos : Pos) (e f : Expr) (cpos : Pos) : Prop where
  base : attributeBase o m X.env (eval o X.env) = eval o X.env
  few : ((backTo cpos (starEach [e, f] X.env)).all (fun x => !x.1) && (backToKw cpos (keywordEach [] X.env)).all (fun x => x.1.isSome)
    && decide (([e, f] : List Expr).length + ([] : List Keyword).length + (if ([] : List Keyword).isEmpty then 0 else 1) < 30)) = true
  line : (apos.endLine == cpos.line) = true
  trees : backTo cpos (starEach [e, f] X.env) = [(false, eval e X.env), (false, eval f X.env)]
def IsD (H : Hp) (a : Addr) : Prop := (∃ kvs, Rd H a (.dK kvs)) ∨ ∃ kvs, Rd H a (.dT kvs)
section
variable {X : Cx} {pins : List (Addr × Obj)} {σ : St} {H : Hp} {s : Shared} {a : Addr} {y d : V} {u r : Value} {o : Option V} {A : Around} {E : Value → Shared → Prop}
end
def tDGet1 (td ty : TE) : TE := fun σ H Q => td σ H fun x H1 => ∃ a, x = .ref a ∧ IsD H1 a ∧ ty σ H1 fun y H2 => ∃ o, DGet H2 a y o ∧ Q (o.getD .non) H2
def tDGet2 (td ty tx : TE) : TE := fun σ H Q => td σ H fun x H1 => ∃ a, x = .ref a ∧ IsD H1 a ∧ ty σ H1 fun y H2 => tx σ H2 fun z H3 => ∃ o, DGet H3 a y o ∧ Q (o.getD z) H3
def tDPop1 (td ty : TE) : TE := fun σ H Q => td σ H fun x H1 => ∃ a, x = .ref a ∧ IsD H1 a ∧ ty σ H1 fun y H2 => ∃ kvs k v, H2 a = some (.dK kvs) ∧ y = kV k ∧ valV kvs k = some v ∧ Q v (upd H2 a (.dK (dropK kvs k)))
def tDPop2 (td ty tx : TE) : TE := fun σ H Q => td σ H fun x H1 => ∃ a, x = .ref a ∧ IsD H1 a ∧ ty σ H1 fun y H2 => tx σ H2 fun z H3 => ∃ kvs k, H3 a = some (.dK kvs) ∧ y = kV k ∧
  (∀ v, valV kvs k = some v → Q v (upd H3 a (.dK (dropK kvs k)))) ∧ (valV kvs k = none → Q z H3)
section
variable {X : Cx} {o e f : Expr} {apos cpos : Pos} {td ty tx : TE}
end
section
variable {X : Cx} {pins : List (Addr × Obj)} {σ : St} {H : Hp} {s : Shared} {a : Addr} {kvs : List (Key × V)} {A : Around} {E : Value → Shared → Prop}
end
section
variable {X : Cx} {pins : List (Addr × Obj)} {σ : St} {H : Hp} {s : Shared} {a : Addr} {y : V} {u : Value} {A : Around} {E : Value → Shared → Prop}
end
end L2
namespace L2
open PySem PySem.Spec PyProof.Rows
section
variable {κ : Type} [DecidableEq κ]
theorem valV_in {kvs : List (κ × V)} {k : κ} {v : V} (h : valV kvs k = some v) : k ∈ kvs.map (·.1) := by
  have q : (kvs.any fun kv => decide (kv.1 = k)) = true := by
    rw [valV_any, h]
    all_goals rfl
  obtain ⟨p, hp, e⟩ := List.any_eq_true.mp q
  exact List.mem_map.mpr ⟨p, hp, of_decide_eq_true e⟩
end
end L2
set_option Elab.async false
set_option linter.all false
set_option maxRecDepth 100000
namespace L2
open PySem PySem.Spec PyProof.Rows
structure CompSc2 (N : List Str) (fsc : Scope) (scope : Scope) (Nc : List Str) (caps : List (Option Nat)) : Prop where
  kind : scope.kind = .function
  nocell : ∀ y ∈ scope.names, y.2 ≠ .cell
  loc : ∀ y ∈ scope.names, y.2 = .local → scope.names.lookup y.1 = some .local
  fre : ∀ y ∈ scope.names, y.2 = .free → fsc.names.lookup y.1 = some .cell ∨ fsc.names.lookup y.1 = some .free
  len : caps.length = Nc.length
  nd : Nc.Nodup
  cap : (Nc.zip caps).all (capOk N scope) = true
def GKeep (caps : List (Option Nat)) (g : TG) : Prop := ∀ (x : V) (σ : St) (H : Hp) (Q : St → Hp → Prop), g x σ H Q → g x σ H fun σ2 H2 => Q σ2 H2 ∧ σ2.length = σ.length ∧ ∀ (i k : Nat), caps[i]? = some (some k) → σ2[i]? = σ[i]?
def CompG (J : It) (caps : List (Option Nat)) (g : TG) (ti : TT) (te : TE) (σ : St) (H1 : Hp) (D : Addr) (Q : VK) : Prop :=
  ∃ W : Nat → Nat → Hp → Prop, (∃ m, W 0 m (upd H1 D (.lst []))) ∧ ∀ i m H2, W i m H2 →
    (J.stop i H2 ∧ Q (.ref D) H2) ∨ (J.go i H2 ∧ ∀ x H3, J.yld i H2 x H3 → g x (capOf caps σ) H3 fun σ2 H3' => ti σ2 H3' fun b H4 => if b = true then te σ2 H4 fun v H5 =>
      ∃ ys, H5 D = some (.lst ys) ∧ ys.length < sizeLine ∧ ∃ m', m' < m ∧ W (i + 1) m' (upd H5 D (.lst (ys ++ [v]))) else ∃ m', m' < m ∧ W (i + 1) m' H4)
def tCompG (wi : TI) (caps : List (Option Nat)) (g : TG) (ti : TT) (te : TE) : TE := fun σ H Q => wi σ H fun J H1 => ∀ D, H1 D = none → CompG J caps g ti te σ H1 D Q
theorem comp_core {X : Cx} {use : Option (Value → Sem Unit)} {Qv : Value → Shared → Prop} {pins : List (Addr × Obj)} {s : Shared} {σ : St} {H : Hp} {Q : VK} {elt iter tg : Expr} {g : TG} {ifs : List Expr} {scope : Scope} {pos : Pos} {N Nc : List Str} {fsc : Scope} {caps : List (Option Nat)} {wi : TI} {ti : TT} {te : TE} (S : CompSc2 N fsc scope Nc caps)
    (hi : PI X tg iter wi) (hg : ∀ cl C fp pn s₀ H₀, PG (compCx X scope Nc cl C fp pn s₀ H₀) tg g) (hk : GKeep caps g) (hif : ∀ cl C fp pn s₀ H₀, PF (compCx X scope Nc cl C fp pn s₀ H₀) ifs ti) (he : ∀ cl C fp pn s₀ H₀, PE (compCx X scope Nc cl C fp pn s₀ H₀) elt te)
    (hN : X.N = N) (hS : X.env.scope = fsc) (hs : ∀ y, foldedSetIterable iter X.env y = pure y) (I : Inv X pins σ H s) (h : tCompG wi caps g ti te σ H Q) {fpos : Pos}
    (hdone : ∀ (D C : Addr) (H6 : Hp) (s7 : Shared) (m : Str → Option Value), Inv X pins σ H6 s7 → s7.heap.Ns C m → FpOk X pins H6 C → Q (.ref D) H6 → compPost (model X.prog X.w) X.A X.xe use Qv (.ref D) C (.ok .next) s7) :
    wpAny (model X.prog X.w) X.A (comprehension (.ListComp elt [⟨tg, iter, ifs, 0⟩] scope pos) scope X.env fpos (newList []) false (eval iter X.env) use) Qv X.xe s := by
  subst hN hS
  obtain ⟨cl, hcl, hc1, hc2⟩ := closure_ok (scope := scope) (env := X.env) fun n hn => by
    refine I.ok.has n ?_
    exact S.fre _ hn rfl
  refine wpAny_comprehension_free (use := use) rfl hs hcl S.kind S.loc (thn (hi pins s σ H _ I h) fun v s1 h1 => thn h1 fun itv s2 h2 => ?_)
  obtain ⟨it, fp, tn, J, H2, rfl, I2, T, st2, f2, hR⟩ := h2
  obtain ⟨W, ⟨m0, w0⟩, turn⟩ := hR s2.heap.objs.size (I2.hok.fresh (Nat.le_refl _))
  have I3 := I2.lnew (its := []) (t' := s2.toks) .nil (Nat.zero_le _)
  refine wpAny_newObj_type (wpAny_newFunctionEnv S.nocell (by intro y hy; simp at hy) (fun h₁ hns₁ hsb₁ => ?_) S.kind)
  have hsz : (s2.heap.push { cls := .type "list", data := .seq ([] : List Value).toArray }).objs.size = s2.heap.objs.size + 1 := Heap.size_push ..
  generalize hs3 : ({ s2 with heap := s2.heap.push { cls := .type "list", data := .seq ([] : List Value).toArray } } : Shared) = s3 at I3 hns₁ hsb₁ ⊢
  have h3 : s3.heap = s2.heap.push { cls := .type "list", data := .seq ([] : List Value).toArray } := by rw [← hs3]
  have k4 : ∀ b u, s3.heap.get? b = some u → h₁.get? b = some u := fun b u q => hsb₁.extBut b u (Nat.ne_of_lt (Heap.lt_size q)) (Heap.get?_push_of_some _ q)
  have lt2 : ∀ b ∈ fp, b < s3.heap.objs.size := fun b hb => by
    obtain ⟨o, q, _⟩ := T.obj _ _ st2 b hb
    rw [h3, hsz]
    exact Nat.lt_succ_of_lt (Heap.lt_size q)
  have nst : ∀ b ∈ fp, b ∉ frs X.stack := fun b hb hm => by
    obtain ⟨_, f1, f3, _⟩ := f2 b hb
    exact (List.mem_cons.mp (I2.stkSub b hm)).elim f1 f3
  have nD : ∀ b ∈ fp, b ≠ s2.heap.objs.size := fun b hb z => by
    obtain ⟨o, q, _⟩ := T.obj _ _ st2 b hb
    exact absurd (Heap.lt_size q) (by rw [z]; exact Nat.lt_irrefl _)
  have pinS : ∀ p ∈ X.pn ++ pins, p.1 ∉ frs X.stack := fun p hp hm => by
    obtain ⟨_, _, ne, nf, _⟩ := I3.pin p hp
    exact (List.mem_cons.mp (I3.stkSub p.1 hm)).elim ne nf
  have relK : ∀ y k, (relabel scope X.env).names.lookup y = some k → scope.names.lookup y = some k ∨ (k = .cell ∧ scope.names.lookup y = some .free) := fun y k q => lookup_relabel q
  have okC : (compCx X scope Nc cl s3.heap.objs.size fp (X.pn ++ pins) s3 (upd H2 s2.heap.objs.size (.lst []))).Ok := by
    refine ⟨I.ok.mod, S.kind, I.ok.glob, I.ok.blt, Nat.le_refl _, fun y z c q1 q2 => I.ok.inj y z c (hc1 y c q1).1 (hc1 z c q2).1, fun y hy => ?_, (fun y c z => nomatch z), I.ok.hd, I.ok.frames, .inl rfl, fun b hb => ⟨Nat.ne_of_lt (lt2 b hb), fun y c e => (f2 b hb).2.2.2.2.1 y c (hc1 y c e).1⟩,
      I3.bs, Nat.le_trans I.ok.bsz I3.sz, fun b o e hb => ?_, nst, I3.stack, I3.stkFree, I.ok.hnd⟩
    · have hm : (y, NameKind.free) ∈ scope.names := by
        have q : scope.names.lookup y = some .free := by
          rcases hy with hy | hy
          · rcases relK y _ hy with q | q
            · exact absurd rfl (S.nocell _ (PySem.mem_of_lookup q))
            · exact q.2
          · rcases relK y _ hy with q | q
            · exact q
            · exact absurd q.1 (by decide)
        exact PySem.mem_of_lookup q
      exact Option.isSome_iff_exists.mp (hc2 y hm)
    · rcases (f2 b hb).2.2.2.1 with z | z
      · exact I.ok.noex b o e z
      · exact absurd (Nat.lt_of_lt_of_le (Heap.lt_size (I.ok.bs b o e).1) z) (Nat.lt_irrefl _)
  have lenC : (capOf caps σ).length = Nc.length := by unfold capOf; rw [List.length_map]; exact S.len
  have I4 : Inv (compCx X scope Nc cl s3.heap.objs.size fp (X.pn ++ pins) s3 (upd H2 s2.heap.objs.size (.lst []))) [] (capOf caps σ) (upd H2 s2.heap.objs.size (.lst [])) { s3 with heap := h₁, toks := s3.toks + ([] : List (Str × Value)).length } := by
    refine ⟨okC, rfl, I3.bare, Un.kept k4, ⟨_, hns₁, fun i y v e1 e2 e3 => ?_⟩, fun y c e => ?_, I3.hok.fresh (Nat.le_refl _), fun y c e => I3.freeC y c (hc1 y c e).1, fun p hp => ?_, I3.hok.kept k4, lenC, I3.hxs⟩
    · obtain ⟨k, e4, e5⟩ := capOf_get e2
      have hz : (y, some k) ∈ Nc.zip caps := by
        refine List.mem_of_getElem? (i := i) ?_
        rw [List.getElem?_zip_eq_some]
        exact ⟨e1, e4⟩
      have hcap := List.all_eq_true.mp S.cap _ hz
      simp only [capOk, Bool.and_eq_true, decide_eq_true_eq] at hcap
      obtain ⟨c1, c2⟩ := hcap
      have fr := S.fre _ (PySem.mem_of_lookup c2) rfl
      obtain ⟨m, hn, hl⟩ := I3.loc
      obtain ⟨u, r, l⟩ := hl k y v c1 e5 (fr.elim (fun z => .inr (.inl z)) fun z => .inr (.inr z))
      refine ⟨u, r, ?_⟩
      rcases l with ⟨z, _⟩ | ⟨_, c, e6, e7⟩
      · have z' : X.env.scope.names.lookup y = some .local := z
        rcases fr with q | q
        · rw [z'] at q; cases q
        · rw [z'] at q; cases q
      · refine .inr ⟨?_, c, ?_, ?_⟩
        · rcases e3 with q | q | q
          · rcases relK y _ q with z | z
            · rw [c2] at z; cases z
            · exact absurd z.1 (by decide)
          · exact .inl q
          · exact .inr q
        · obtain ⟨c', z⟩ := Option.isSome_iff_exists.mp (hc2 y (PySem.mem_of_lookup c2))
          have := (hc1 y c' z).1
          rw [e6] at this; cases this
          exact z
        · obtain ⟨oc, z1, z2⟩ := e7
          exact ⟨oc, k4 _ _ z1, z2⟩
    · obtain ⟨v, oc, z1, z2⟩ := I3.cell y c (hc1 y c e).1
      exact ⟨v, oc, k4 _ _ z1, z2⟩
    · rw [List.append_nil] at hp
      obtain ⟨e, n, ne, nf, d⟩ := I3.pin p hp
      exact ⟨k4 _ _ e, n, Nat.ne_of_lt (Heap.lt_size e), pinS p hp, d⟩
  have st4 : tn 0 h₁ := T.keep _ _ _ st2 fun b hb o q => k4 b o (by rw [h3]; exact Heap.get?_push_of_some _ q)
  have fr4 : ∀ b ∈ fp, (upd H2 s2.heap.objs.size (.lst [])) b = none := fun b hb => by rw [upd_ne (nD b hb)]; exact (f2 b hb).1
  have stat : ∀ {H' : Hp}, (∀ b ∈ fp, H' b = none) → ∀ b ∈ fp, FpOk (compCx X scope Nc cl s3.heap.objs.size fp (X.pn ++ pins) s3 (upd H2 s2.heap.objs.size (.lst []))) [] H' b := fun hn b hb => by
    obtain ⟨g0, g1, g2, g3, g4, g5⟩ := f2 b hb
    exact ⟨hn b hb, Nat.ne_of_lt (lt2 b hb), nst b hb, .inl hb, fun y c e => g4 y c (hc1 y c e).1, fun p hp => g5 p (by rw [List.append_nil] at hp; exact hp)⟩
  have loop : ∀ s5 : Shared, s5 = { s3 with heap := h₁, toks := s3.toks + ([] : List (Str × Value)).length } →
      codeAny (model X.prog X.w) X.A (.compLoop (.ListComp elt [⟨tg, iter, ifs, 0⟩] scope pos) 0 (.ref it) (.ref s2.heap.objs.size) (compEnvC scope cl s3.heap.objs.size X.env)) (compPost (model X.prog X.w) X.A X.xe use Qv (.ref s2.heap.objs.size) s3.heap.objs.size) s5 := by
    intro s5 e5
    refine comp_loop (fun n s' => ∃ i H', Inv (compCx X scope Nc cl s3.heap.objs.size fp (X.pn ++ pins) s3 (upd H2 s2.heap.objs.size (.lst []))) [] (capOf caps σ) H' s' ∧ tn i s'.heap ∧ (∀ b ∈ fp, H' b = none) ∧ W i n H') ?_ m0 ⟨0, _, by rw [e5]; exact I4, by rw [e5]; exact st4, fr4, w0⟩
    rintro n s6 ⟨i, H6, I6, st6, fr6, w6⟩
    rcases turn i n H6 w6 with ⟨stop, qn⟩ | ⟨go, step⟩
    · refine thn (T.done (compCx X scope Nc cl s3.heap.objs.size fp (X.pn ++ pins) s3 (upd H2 s2.heap.objs.size (.lst []))) rfl rfl rfl rfl i [] s6 _ H6 _ I6 (stat fr6) st6 stop) fun r s7 ⟨hr, I7⟩ => ?_
      subst hr
      obtain ⟨m, hn, _⟩ := id I7.loc
      have hfree : H6 s3.heap.objs.size = none := I7.free
      refine hdone s2.heap.objs.size s3.heap.objs.size H6 s7 m ?_ hn (I3.fpOk (Nat.le_refl _) hfree) qn
      have un := I7.base
      refine I3.call' (s' := s7) (ch := fp) I7.os ⟨un.keep, un.slot, un.free, un.there, un.tups, un.frzs, un.tbls⟩ (fun b u e => ?_) I7.bare fun b hb => ?_
      · exact I7.hok b u e
      · obtain ⟨g0, g1, g2, g3, g4, g5⟩ := f2 b hb
        exact ⟨g3, g1, g4, g5⟩
    · refine thn (T.item (compCx X scope Nc cl s3.heap.objs.size fp (X.pn ++ pins) s3 (upd H2 s2.heap.objs.size (.lst []))) rfl rfl rfl rfl i [] s6 _ H6 _ I6 (stat fr6) st6 go) fun r s7 ⟨u, hr, h7⟩ => ?_
      subst hr
      refine thn h7 fun _ s8 ⟨y, H8, I8, r8, y8, st8, fr8⟩ => ?_
      have I8' := I8.pinned (stat fr8) (T.obj _ _ st8)
      refine thn (hg cl s3.heap.objs.size fp (X.pn ++ pins) s3 _ _ s8 _ H8 y u _ I8' r8 (hk _ _ _ _ (step y H8 y8))) fun _ s9 ⟨σ9, H9, I9, q9, l9, k9⟩ => ?_
      have weak : ∀ {H' : Hp} {s' : Shared}, Inv (compCx X scope Nc cl s3.heap.objs.size fp (X.pn ++ pins) s3 (upd H2 s2.heap.objs.size (.lst []))) ([] ++ pinsAt fp s8.heap) σ9 H' s' →
          Inv (compCx X scope Nc cl s3.heap.objs.size fp (X.pn ++ pins) s3 (upd H2 s2.heap.objs.size (.lst []))) [] (capOf caps σ) H' s' ∧ tn (i + 1) s'.heap ∧ (∀ b ∈ fp, H' b = none) := fun {H' s'} J => by
        refine ⟨(J.weak (σ' := capOf caps σ) l9.symm fun i' v e => ?_).unpinned, T.keep _ _ _ st8 fun b hb o e => (J.pin (b, o) (List.mem_append_right _ (List.mem_append_right _ (mem_pinsAt hb e)))).1, fun b hb => ?_⟩
        · obtain ⟨k, e4, _⟩ := capOf_get e
          rw [k9 i' k e4]
          exact e
        · obtain ⟨o, e, d⟩ := T.obj _ _ st8 b hb
          exact (J.pin (b, o) (List.mem_append_right _ (List.mem_append_right _ (mem_pinsAt hb e)))).2.1
      refine thn (hif cl s3.heap.objs.size fp (X.pn ++ pins) s3 _ _ s9 _ H9 _ I9 q9) fun b s10 ⟨H10, I10, q10⟩ => ?_
      cases b with
      | false =>
        obtain ⟨m', hm, w'⟩ := q10
        obtain ⟨J, t1, f1⟩ := weak I10
        exact ⟨m', hm, i + 1, H10, J, t1, f1, w'⟩
      | true =>
        rw [if_pos rfl]
        refine thn (he cl s3.heap.objs.size fp (X.pn ++ pins) s3 _ _ s10 _ H10 _ I10 q10) fun e s11 ⟨ev, H11, I11, r11, ys, hD, hl, m', hm, w'⟩ => ?_
        refine thn (mt_append _ s11 _ H11 (.ref s2.heap.objs.size) [ev] (.ref s2.heap.objs.size) [e] (fun v H' => v = .non ∧ H' = upd H11 s2.heap.objs.size (.lst (ys ++ [ev]))) I11 rfl (.cons r11 .nil) ⟨_, ys, ev, rfl, rfl, hD, hl, rfl, rfl⟩) fun _ s12 ⟨v12, H12, I12, _, _, e12⟩ => ?_
        subst e12
        obtain ⟨J, t1, f1⟩ := weak I12
        exact ⟨m', hm, i + 1, _, J, t1, f1, w'⟩
  exact codeAny_compStart_list (loop _ rfl) (T.self _ 0 _ _ _ st4 (loop _ rfl))
theorem pe_compG {X : Cx} {elt iter tg : Expr} {g : TG} {ifs : List Expr} {scope : Scope} {pos : Pos} {N Nc : List Str} {fsc : Scope} {caps : List (Option Nat)} {wi : TI} {ti : TT} {te : TE} (S : CompSc2 N fsc scope Nc caps)
    (hi : PI X tg iter wi) (hg : ∀ cl C fp pn s₀ H₀, PG (compCx X scope Nc cl C fp pn s₀ H₀) tg g) (hk : GKeep caps g) (hif : ∀ cl C fp pn s₀ H₀, PF (compCx X scope Nc cl C fp pn s₀ H₀) ifs ti) (he : ∀ cl C fp pn s₀ H₀, PE (compCx X scope Nc cl C fp pn s₀ H₀) elt te)
    (hN : X.N = N := by rfl) (hS : X.env.scope = fsc := by rfl) (hs : ∀ y, foldedSetIterable iter X.env y = pure y := by intro _; rfl) :
    PE X (.ListComp elt [⟨tg, iter, ifs, 0⟩] scope pos) (tCompG wi caps g ti te) := by
  constructor
  intro pins s σ H Q I h
  rw [eval_ListComp]
  refine comp_core (use := none) S hi hg hk hif he hN hS hs I h fun D C H6 s7 m I7 hn hf q => ⟨m, hn, fun h' hs' => ⟨.ref D, H6, ?_, rfl, q⟩⟩
  obtain ⟨f0, f1, f2, f3, f4, f5⟩ := hf
  exact I7.turned (t' := s7.toks) (fun b o hb e => (hs'.2 b hb).trans e) f0 f1 f3 f4 f5
theorem ps_setC {X : Cx} {elt iter tg : Expr} {g : TG} {ifs : List Expr} {scope : Scope} {cpos pos py : Pos} {N Nc : List Str} {fsc : Scope} {caps : List (Option Nat)} {wi : TI} {ti : TT} {te : TE} {y : Str} {i : Nat} (S : CompSc2 N fsc scope Nc caps)
    (hi : PI X tg iter wi) (hg : ∀ cl C fp pn s₀ H₀, PG (compCx X scope Nc cl C fp pn s₀ H₀) tg g) (hk : GKeep caps g) (hif : ∀ cl C fp pn s₀ H₀, PF (compCx X scope Nc cl C fp pn s₀ H₀) ifs ti) (he : ∀ cl C fp pn s₀ H₀, PE (compCx X scope Nc cl C fp pn s₀ H₀) elt te)
    (hN : X.N = N) (hS : X.env.scope = fsc) (hs : ∀ y, foldedSetIterable iter X.env y = pure y) (nd : N.Nodup) (hy : N[i]? = some y) (hl : fsc.names.lookup y = some .local) (hw : swapsWith (.ListComp elt [⟨tg, iter, ifs, 0⟩] scope cpos) (some (.Name y py)) pos.line X.env = pure true) :
    PS X (.Assign [.Name y py] (.ListComp elt [⟨tg, iter, ifs, 0⟩] scope cpos) pos) (tAsg (tCompG wi caps g ti te) (gName i)) := by
  constructor
  intro pins s σ H D I h
  rw [exec_Assign_Name_used _ _ _ _ hw]
  subst hN hS
  refine wpAny_bind (wpAny_standAt (wpAny_bind ?_))
  refine wpAny_bind ?_
  show wpAny _ _ (comprehension (.ListComp elt [⟨tg, iter, ifs, 0⟩] scope cpos) scope X.env _ (newList []) false (eval iter X.env) (some (assign (.Name y py) X.env))) _ _ _
  refine comp_core (use := some (assign (.Name y py) X.env)) (Qv := fun _ s' => wpAny (model X.prog X.w) X.A (pure ()) (fun _ s2 => wpAny (model X.prog X.w) X.A (pure Flow.next) (SP X pins D) X.xe s2) X.xe s') S hi hg hk hif he rfl rfl hs I h fun D' C H6 s7 m I7 hn hf q => ?_
  obtain ⟨f0, f1, f2, f3, f4, f5⟩ := hf
  show wpAny _ _ (assign (.Name y py) X.env (.ref D')) _ _ _
  refine wpAny_assign_Name (store_ok2 I7 nd hy (.inl hl) (v := .ref D') rfl (fun s8 I8 ⟨a, sb, ha⟩ => ?_) (.inr hl))
  have hCa : C ≠ a := by
    rcases ha with e | e
    · rw [e]; exact f1
    · exact fun z => f4 y a e z.symm
  refine ⟨m, hn.sameBut sb hCa, fun h' hs' => wpAny_pure (wpAny_pure ⟨_, H6, ?_, q⟩)⟩
  exact I8.turned (t' := s8.toks) (fun b o hb e => (hs'.2 b hb).trans e) f0 f1 f3 f4 f5
theorem gk_pair {K : PySem.W.Frag} {caps : List (Option Nat)} (h0 : caps[0]? = some none) (h1 : caps[1]? = some none) : GKeep caps (gTup K 2 (gCons (gName 0) (gCons (gName 1) gNil))) := by
  rintro x σ H Q ⟨a, xs, e1, h1', h2, v, r, e2, v', r', e3, e4, q⟩
  refine ⟨a, xs, e1, h1', h2, v, r, e2, v', r', e3, e4, q, by rw [List.length_set, List.length_set], fun i k hi => ?_⟩
  have n0 : i ≠ 0 := fun z => by rw [z, h0] at hi; cases hi
  have n1 : i ≠ 1 := fun z => by rw [z, h1] at hi; cases hi
  rw [List.getElem?_set_ne (Ne.symm n1), List.getElem?_set_ne (Ne.symm n0)]
theorem pg_comp {X : Cx} {scope : Scope} {Nc : List Str} {cl : List (Str × Addr)} {C : Addr} {fp : List Addr} {pn : List (Addr × Obj)} {s₀ : Shared} {H₀ : Hp} {x : Str} {j : Nat} {p : Pos} (nd : Nc.Nodup) (hj : Nc[j]? = some x) (hl : scope.names.lookup x = some .local) :
    PG (compCx X scope Nc cl C fp pn s₀ H₀) (.Name x p) (gName j) :=
  pg_name (X := compCx X scope Nc cl C fp pn s₀ H₀) nd hj (.inl (lookup_relabel_local hl)) (.inr (lookup_relabel_local hl))
theorem gk_name {caps : List (Option Nat)} {j : Nat} (h0 : caps[j]? = some none) : GKeep caps (gName j) := by
  intro x σ H Q q
  refine ⟨q, by rw [List.length_set], fun i k hi => ?_⟩
  have n0 : i ≠ j := fun z => by rw [z, h0] at hi; cases hi
  rw [List.getElem?_set_ne (Ne.symm n0)]
theorem compG_of {J : It} {caps : List (Option Nat)} {j : Nat} {ti : TT} {te : TE} {σ : St} {H1 : Hp} {D : Addr} {Q : VK} (h : CompW J caps j ti te σ H1 D Q) : CompG J caps (gName j) ti te σ H1 D Q := h
section
variable {X : Cx} {N : List Str} {sc : Scope} {pos : Pos}
theorem cmpT {elt iter : Expr} {x y : Str} {px py pt : Pos} {kt : Nat} {ifs : List Expr} {scope : Scope} {Nc Lc : List Str} {caps : List (Option Nat)} {wi : TI} {ti : TT} {te : TE} (S : CompSc2 N sc scope Nc caps)
    (hi : PI X (.Tuple [.Name x px, .Name y py] kt pt) iter wi) (hif : ∀ cl C fp pn s₀ H₀, Vs Nc (relabel scope X.env) → Gs Lc (relabel scope X.env) → PF (compCx X scope Nc cl C fp pn s₀ H₀) ifs ti) (he : ∀ cl C fp pn s₀ H₀, Vs Nc (relabel scope X.env) → Gs Lc (relabel scope X.env) → PE (compCx X scope Nc cl C fp pn s₀ H₀) elt te)
    (hc : X.calm = true := by rfl) (h0 : caps[0]? = some none := by rfl) (h1 : caps[1]? = some none := by rfl) (hx : Nc[0]? = some x := by rfl) (hy : Nc[1]? = some y := by rfl) (lx : scope.names.lookup x = some .local := by decide +kernel) (ly : scope.names.lookup y = some .local := by decide +kernel)
    (hV : Nc.all (visOk scope) = true := by decide +kernel) (hG : Lc.all (gloOk scope) = true := by decide +kernel) (hN : X.N = N := by rfl) (hS : X.env.scope = sc := by rfl) (hs : ∀ y, foldedSetIterable iter X.env y = pure y := by intro _; rfl) :
    PE X (.ListComp elt [⟨.Tuple [.Name x px, .Name y py] kt pt, iter, ifs, 0⟩] scope pos) (tCompG wi caps (gTup X.K 2 (gCons (gName 0) (gCons (gName 1) gNil))) ti te) :=
  pe_compG S hi (fun cl C fp pn s₀ H₀ => pg_tup (X := compCx X scope Nc cl C fp pn s₀ H₀) hc (pgs_cons (pg_comp S.nd hx lx) (pgs_cons (pg_comp S.nd hy ly) pgs_nil))) (gk_pair h0 h1) (fun cl C fp pn s₀ H₀ => hif cl C fp pn s₀ H₀ ((Vs.of hV).re _) ((Gs.of hG).re _)) (fun cl C fp pn s₀ H₀ => he cl C fp pn s₀ H₀ ((Vs.of hV).re _) ((Gs.of hG).re _)) hN hS hs
theorem setC {elt iter : Expr} {x y : Str} {px py cpos : Pos} {ifs : List Expr} {scope : Scope} {Nc Lc : List Str} {caps : List (Option Nat)} {wi : TI} {ti : TT} {te : TE} {i : Nat} (Ld : Ls N sc) (S : CompSc2 N sc scope Nc caps)
    (hi : PI X (.Name x px) iter wi) (hif : ∀ cl C fp pn s₀ H₀, Vs Nc (relabel scope X.env) → Gs Lc (relabel scope X.env) → PF (compCx X scope Nc cl C fp pn s₀ H₀) ifs ti) (he : ∀ cl C fp pn s₀ H₀, Vs Nc (relabel scope X.env) → Gs Lc (relabel scope X.env) → PE (compCx X scope Nc cl C fp pn s₀ H₀) elt te)
    (h0 : caps[0]? = some none := by rfl) (hx : Nc[0]? = some x := by rfl) (lx : scope.names.lookup x = some .local := by decide +kernel) (hy : N[i]? = some y := by rfl) (ly : sc.names.lookup y = some .local := by decide +kernel)
    (hV : Nc.all (visOk scope) = true := by decide +kernel) (hG : Lc.all (gloOk scope) = true := by decide +kernel) (hN : X.N = N := by rfl) (hS : X.env.scope = sc := by rfl) (hs : ∀ y, foldedSetIterable iter X.env y = pure y := by intro _; rfl)
    (hw : swapsWith (.ListComp elt [⟨.Name x px, iter, ifs, 0⟩] scope cpos) (some (.Name y py)) pos.line X.env = pure true := by rfl) :
    PS X (.Assign [.Name y py] (.ListComp elt [⟨.Name x px, iter, ifs, 0⟩] scope cpos) pos) (tAsg (tCompG wi caps (gName 0) ti te) (gName i)) :=
  ps_setC S hi (fun cl C fp pn s₀ H₀ => pg_comp S.nd hx lx) (gk_name h0) (fun cl C fp pn s₀ H₀ => hif cl C fp pn s₀ H₀ ((Vs.of hV).re _) ((Gs.of hG).re _)) (fun cl C fp pn s₀ H₀ => he cl C fp pn s₀ H₀ ((Vs.of hV).re _) ((Gs.of hG).re _)) hN hS hs Ld.nd hy ly hw
end
end L2
set_option Elab.async false
set_option linter.all false
set_option maxRecDepth 100000
namespace L2
open PySem PySem.Spec PyProof.Rows
section
variable {prog : Program} {w : World} {A : Around} {E : Value → Shared → Prop} {s : Shared} {d : Addr} {kvs : List (Key × Value)} {ep : Nat}
end
section
variable {X : Cx}
end
end L2
set_option Elab.async false
set_option linter.all false
set_option maxRecDepth 100000
namespace L2
open PySem PySem.Spec PyProof.Rows
section
variable {X : Cx}
def rEqS (K : PySem.W.Frag) : R2 := fun x y H Q => ∃ z, y = .str z ∧ ((∃ t, x = .str t ∧ Q (.bl (decide (V.str t = .str z))) H) ∨ ∃ p xs, x = .ref p ∧ SqL K H p xs ∧ Q (.bl false) H)
end
theorem comp_pairs {K : PySem.W.Frag} {J : It} {caps : List (Option Nat)} {ti : TT} {te : TE} {σ : St} {H1 : Hp} {D : Addr} {Q : VK} (n : Nat) (px py f : Nat → V) (keep : Nat → Bool) (hD : H1 D = none) (hn : n ≤ 100000)
    (go : ∀ i H2, i < n → Same H1 H2 → J.go i H2) (stop : ∀ H2, Same H1 H2 → J.stop n H2) (yld : ∀ i H2 x H3, i < n → Same H1 H2 → J.yld i H2 x H3 → ∃ p, x = .ref p ∧ H2 p = none ∧ H3 = upd H2 p (.tup [px i, py i]))
    (tst : ∀ i H2 Q', i < n → Same H1 H2 → Q' (keep i) H2 → ti (((capOf caps σ).set 0 (some (px i))).set 1 (some (py i))) H2 Q')
    (step : ∀ i H2 Q', i < n → keep i = true → Same H1 H2 → Q' (f i) H2 → te (((capOf caps σ).set 0 (some (px i))).set 1 (some (py i))) H2 Q')
    (fin : ∀ H2, Same H1 H2 → H2 D = some (.lst (((List.range n).filter keep).map f)) → Q (.ref D) H2) : CompG J caps (gTup K 2 (gCons (gName 0) (gCons (gName 1) gNil))) ti te σ H1 D Q := by
  have hz : 100000 < sizeLine := by decide
  refine ⟨fun i m H2 => m = n - i ∧ i ≤ n ∧ Same H1 H2 ∧ H2 D = some (.lst (((List.range i).filter keep).map f)), ⟨n, by simp, Nat.zero_le _, Same.new hD _, upd_same⟩, ?_⟩
  rintro i m H2 ⟨rfl, hi, sm, hl⟩
  by_cases hlt : i < n
  · refine .inr ⟨go i H2 hlt sm, fun x H3 y => ?_⟩
    obtain ⟨p, rfl, hp, rfl⟩ := yld i H2 x H3 hlt sm y
    have s2 := sm.trans (Same.new hp (.tup [px i, py i]))
    have hDp : D ≠ p := fun z => by rw [z, hp] at hl; cases hl
    have hl3 : upd H2 p (.tup [px i, py i]) D = some (.lst (((List.range i).filter keep).map f)) := by rw [upd_ne hDp]; exact hl
    refine ⟨p, _, rfl, SqT.of upd_same, rfl, _, _, rfl, _, _, rfl, rfl, tst i _ _ hlt s2 ?_⟩
    have hlen : ((List.range i).filter keep).length ≤ i := by have := List.length_filter_le keep (List.range i); rw [List.length_range] at this; exact this
    cases hk : keep i with
    | true =>
      rw [if_pos rfl]
      refine step i _ _ hlt hk s2 ⟨_, hl3, by rw [List.length_map]; omega, n - (i + 1), by omega, rfl, by omega, s2.upd hD hl3 _, ?_⟩
      rw [upd_same, List.range_succ, List.filter_append, List.map_append]
      simp [hk]
    | false =>
      rw [if_neg Bool.false_ne_true]
      refine ⟨n - (i + 1), by omega, rfl, by omega, s2, ?_⟩
      rw [hl3, List.range_succ, List.filter_append, List.map_append]
      simp [hk]
  · have e : i = n := by omega
    subst e
    exact .inl ⟨stop H2 sm, fin H2 sm hl⟩
theorem comp_enum {K : PySem.W.Frag} {a : Addr} {xs : List V} {caps : List (Option Nat)} {ti : TT} {te : TE} {σ : St} {H1 : Hp} {D : Addr} {Q : VK} (f : Nat → V) (keep : Nat → Bool) (ha : SqL K H1 a xs) (hD : H1 D = none) (hn : xs.length ≤ 100000)
    (tst : ∀ (i : Nat) x H2 Q', xs[i]? = some x → Same H1 H2 → Q' (keep i) H2 → ti (((capOf caps σ).set 0 (some (.int i))).set 1 (some x)) H2 Q')
    (step : ∀ (i : Nat) x H2 Q', xs[i]? = some x → keep i = true → Same H1 H2 → Q' (f i) H2 → te (((capOf caps σ).set 0 (some (.int i))).set 1 (some x)) H2 Q')
    (fin : ∀ H2, Same H1 H2 → H2 D = some (.lst (((List.range xs.length).filter keep).map f)) → Q (.ref D) H2) : CompG (Ite K a) caps (gTup K 2 (gCons (gName 0) (gCons (gName 1) gNil))) ti te σ H1 D Q := by
  have at1 : ∀ i, i < xs.length → xs[i]? = some (xs.getD i .non) := fun i hi => by rw [List.getD_eq_getElem?_getD, List.getElem?_eq_getElem hi]; rfl
  refine comp_pairs xs.length (fun i => .int i) (fun i => xs.getD i .non) f keep hD hn (fun i H2 hi sm => ⟨xs, _, sm.seq ha, at1 i hi⟩) (fun H2 sm => ⟨xs, sm.seq ha, Nat.le_refl _⟩)
    (fun i H2 x H3 hi sm y => ?_) (fun i H2 Q' hi sm q => tst i _ H2 Q' (at1 i hi) sm q) (fun i H2 Q' hi hk sm q => step i _ H2 Q' (at1 i hi) hk sm q) fin
  obtain ⟨p, u, rfl, hp, rfl, y1⟩ := y
  have e1 := y1 xs (sm.seq ha)
  rw [at1 i hi] at e1
  cases e1
  exact ⟨p, rfl, hp, rfl⟩
end L2
set_option Elab.async false
set_option linter.all false
set_option maxRecDepth 100000
namespace L2
open PySem PySem.Spec PyProof.Rows
section
variable {X : Cx}
def rCount : V → List V → Hp → VK → Prop := fun x vs H Q => ∃ l xs y, x = .ref l ∧ vs = [y] ∧ H l = some (.lst xs) ∧ xs.all flatV = true ∧ flatV y = true ∧ Q (.int (xs.countP fun z => eqV z y : Nat)) H
theorem ints_are {ns : List Int} : ∀ {us : List Value}, Vals (ns.map V.int) us → IntsAre us ns := by
  induction ns with
  | nil => intro us r; cases r; exact .nil
  | cons n ns ih =>
    intro us r
    cases r with
    | cons p r =>
      obtain ⟨t, rfl⟩ := p
      exact .cons n t (ih r)
theorem vals_of_ints {us : List Value} {ns : List Int} (h : IntsAre us ns) : Vals (ns.map V.int) us := by
  induction h with
  | nil => exact .nil
  | cons n t _ ih => exact .cons ⟨t, rfl⟩ ih
theorem call_sorted : CallR X (.builtin "sorted") (fun xs H Q => ∃ (p : Addr) (ns : List Int), xs = [.ref p] ∧ SqL X.K H p (ns.map V.int) ∧ ns.length < 64 ∧ ∀ l (ns' : List Int), H l = none → ns'.Perm ns → ns'.Pairwise (· ≤ ·) → Q (.ref l) (upd H l (.lst (ns'.map V.int)))) := by
  intro pins s σ H xs us Q I r h
  obtain ⟨p, ns, rfl, hq, h64, q⟩ := h
  obtain ⟨u, rfl, rx⟩ := vals1 r
  cases rx
  obtain ⟨its, rv, pl, hz⟩ := I.list hq
  have hl := rv.length
  rw [List.length_map] at hl
  refine sorted_ints pl.isList (ints_are rv) (by omega) fun out ns' hI hp hs => ?_
  obtain ⟨e, hg⟩ := sortedAll_at s.heap its out
  have hlen : ns'.length ≤ sizeLine := by rw [hp.length_eq]; have : 64 ≤ sizeLine := by decide
                                          omega
  refine ⟨.ref _, _, I.laid (t' := s.toks) (o := .lst (ns'.map V.int)) (fun b o q => sortedAll_old q) (Nat.le_succ _) ⟨by rw [List.length_map]; exact hlen, out.toList, e, vals_of_ints hI, hg⟩, rfl, q _ ns' (I.hok.fresh (Nat.le_succ _)) hp hs⟩
end
section
variable {X : Cx} {e st : Expr} {te : TE} {ts : TO} {p2 pos : Pos}
def tRev (K : PySem.W.Frag) (te : TE) (ts : TO) : TE := fun σ H Q => te σ H fun x H1 => ts σ H1 fun y H2 => ∃ a xs, x = .ref a ∧ y = some (-1) ∧ SqL K H2 a xs ∧ ∀ p, H2 p = none → Q (.ref p) (upd H2 p (.lst xs.reverse))
end
structure OwnM (P : Program) (w : World) (K : PySem.W.Frag) (mg : Str → Option Value) (base : Heap) (c : Bool) (k : Nat) (C : Addr) (m : Str) (ps : List Str) (sp : Sp) : Prop where
  ex : ∃ f fd, FnOk P w K mg base (CX1 P w) c k f fd ps sp ∧ Binds K fd ps [] ∧ Meth K C m f
structure OwnC (P : Program) (w : World) (K : PySem.W.Frag) (mg : Str → Option Value) (base : Heap) (c : Bool) (k : Nat) (C : Addr) (ps : List Str) (sp : Sp) : Prop where
  ex : ∃ f fd, FnOk P w K mg base (CX1 P w) c k f fd ps sp ∧ Binds K fd ps [] ∧ Mk K C f
section
variable {X : Cx} {c : Bool} {k : Nat} {C : Addr} {m x : Str} {ps L : List Str} {sc : Scope} {sp : Sp} {E : XK} {apos p pos : Pos} {o e : Expr} {es : List Expr} {ta : TE} {t : TA}
end
end L2
set_option Elab.async false
set_option linter.all false
set_option maxRecDepth 100000
namespace L2
open PySem PySem.W PyProof.Rows
structure LtOk (lt : Nat → Nat → Bool) : Prop where
  irr : ∀ a, lt a a = false
  tr : ∀ a b c, lt b a = false → lt c b = false → lt c a = false
  asym : ∀ a b, lt a b = true → lt b a = false
def ixA (p : Array Nat) (k : Nat) : Nat := p.getD k 0
def Srt (lt : Nat → Nat → Bool) (p : Array Nat) (m : Nat) : Prop := ∀ i j, i ≤ j → j < m → lt (ixA p j) (ixA p i) = false
def NonI (lt : Nat → Nat → Bool) (p : Array Nat) (m : Nat) : Prop := ∀ i j, i ≤ j → j < m → lt (ixA p i) (ixA p j) = false
def EqR (lt : Nat → Nat → Bool) (p : Array Nat) (a m : Nat) : Prop := ∀ i j, a ≤ i → i < m → a ≤ j → j < m → lt (ixA p i) (ixA p j) = false
def PmR (n : Nat) (p : Array Nat) : Prop := p.Perm (List.range n).toArray
theorem PmR.size {n : Nat} {p : Array Nat} (h : PmR n p) : p.size = n := by have := h.size_eq; simpa using this
theorem PmR.lt {n : Nat} {p : Array Nat} (h : PmR n p) {k : Nat} (hk : k < n) : ixA p k < n := by
  have hs := h.size
  have hm : ixA p k ∈ p := by
    unfold ixA
    rw [Array.getD_eq_getD_getElem?, Array.getElem?_eq_getElem (by omega)]
    exact Array.getElem_mem _
  have := (h.mem_iff).mp hm
  simpa using this
section
variable {lt : Nat → Nat → Bool} (O : LtOk lt) {n : Nat} {cmp : Nat → Nat → (Bool → Shared → Prop) → Shared → Prop} {s : Shared} (hc : ∀ i j C, i < n → j < n → C (lt i j) s → cmp i j C s)
include O hc
end
end L2
set_option Elab.async false
set_option linter.all false
set_option maxRecDepth 100000
namespace L2
open PySem PySem.W PyProof.Rows
section
variable {prog : Program} {w : World} {A : Around} {E : Value → Shared → Prop} {s : Shared}
def outT (vs : List Value) (p : Array Nat) : Array Value := List.toArray (p.toList.map fun i => vs.getD i Value.none)
def Asks (prog : Program) (w : World) (A : Around) (s : Shared) (a : Addr) (vs : List Value) (lt : Nat → Nat → Bool) : Prop :=
  ∀ g : Heap, (∀ b o, b ≠ a → s.heap.get? b = some o → g.get? b = some o) → 2 ≤ vs.length → ∃ κ, (∀ (E : Value → Shared → Prop) (R : SortKind → Shared → Prop), R κ { s with heap := g } → wpAny (model prog w) A (keyKind' vs.toArray) R E { s with heap := g }) ∧
    ∀ i j C, i < vs.length → j < vs.length → C (lt i j) { s with heap := g } → kas_ask prog w A κ vs i j C { s with heap := g }
end
def blex (x y : Int × Int) : Bool := if x.1 = y.1 then (if x.2 = y.2 then false else decide (x.2 < y.2)) else decide (x.1 < y.1)
def lexle (x y : Int × Int) : Prop := x.1 < y.1 ∨ (x.1 = y.1 ∧ x.2 ≤ y.2)
def prAt (H : Hp) (r : Addr) : Int × Int := match H r with
  | some (.tup [.int a, .int b]) => (a, b)
  | _ => (0, 0)
def Pr2 (g : Heap) (r : Addr) (q : Int × Int) : Prop := ∃ o n t t', g.get? r = some o ∧ o.cls = .type "tuple" ∧ o.data = .seq #[.int q.1 t, .int q.2 t'] n
section
variable {prog : Program} {w : World} {A : Around} {s : Shared}
end
end L2
set_option Elab.async false
set_option linter.all false
set_option maxRecDepth 100000
namespace L2
open PySem PySem.W PyProof.Rows
def Alike (K : PySem.W.Frag) (H : Hp) : Nat → V → V → Prop
  | 0, x, y => x = y ∧ flatV x = true
  | n + 1, x, y => (x = y ∧ flatV x = true) ∨ ∃ p q xs ys, x = .ref p ∧ y = .ref q ∧ ((SqL K H p xs ∧ SqL K H q ys) ∨ (SqT K H p xs ∧ SqT K H q ys)) ∧ xs.length = ys.length ∧ ∀ (j : Nat) (a b : V), xs[j]? = some a → ys[j]? = some b → Alike K H n a b
theorem eqV_refl {x : V} (h : flatV x = true) : eqV x x = true := by
  cases x with
  | bl b => cases b <;> rfl
  | int i => exact beq_self_eq_true i
  | str s => exact beq_self_eq_true s
  | non => rfl
  | _ => exact absurd h (by simp [flatV])
section
variable {X : Cx}
def rNeA (K : PySem.W.Frag) : R2 := fun x y H Q => ∃ p q xs ys, x = .ref p ∧ y = .ref q ∧ ((SqL K H p xs ∧ SqL K H q ys) ∨ (SqT K H p xs ∧ SqT K H q ys)) ∧ xs.length = ys.length ∧ (∀ (j : Nat) (a b : V), xs[j]? = some a → ys[j]? = some b → Alike K H 2 a b) ∧ Q (.bl false) H
end
end L2
set_option Elab.async false
set_option linter.all false
set_option maxRecDepth 100000
namespace L2
open PySem PySem.Spec PyProof.Rows
structure CompScC (N : List Str) (fsc : Scope) (scope : Scope) (Nc : List Str) (caps : List (Option Nat)) (x : Str) : Prop where
  kind : scope.kind = .function
  one : (scope.names.filter fun y => y.2 == NameKind.cell) = [(x, NameKind.cell)]
  loc : ∀ y ∈ scope.names, y.2 = .local → scope.names.lookup y.1 = some .local
  fre : ∀ y ∈ scope.names, y.2 = .free → fsc.names.lookup y.1 = some .cell ∨ fsc.names.lookup y.1 = some .free
  len : caps.length = Nc.length
  nd : Nc.Nodup
  cap : (Nc.zip caps).all (capOk N scope) = true
  own : scope.names.lookup x = some .cell
theorem CompScC.only {N : List Str} {fsc scope : Scope} {Nc : List Str} {caps : List (Option Nat)} {x : Str} (S : CompScC N fsc scope Nc caps x) : ∀ y ∈ scope.names, y.2 = .cell → y.1 = x := fun y hy hk => by
  have : y ∈ scope.names.filter fun y => y.2 == NameKind.cell := List.mem_filter.mpr ⟨hy, by rw [hk]; rfl⟩
  rw [S.one] at this
  rw [List.mem_singleton.mp this]
abbrev compCxC (X : Cx) (scope : Scope) (Nc : List Str) (cl : List (Str × Addr)) (C : Addr) (fp : List Addr) (pn : List (Addr × Obj)) (s₀ : Shared) (H₀ : Hp) (x : Str) : Cx :=
  { compCx X scope Nc cl C fp pn s₀ H₀ with fn := fun y => decide (y = x) }
theorem relabel_cell {env : Env} {sc : Scope} {x : Str} (h : sc.names.lookup x = some .cell) : (relabel sc env).names.lookup x = some .cell := by
  rcases relabel_fwd (env := env) h with q | q
  · exact q
  · cases q.1
section
variable {X : Cx} {N : List Str} {sc : Scope} {pos : Pos}
theorem CompSc.re {N : List Str} {sc scope : Scope} {Nc : List Str} {caps : List (Option Nat)} {j : Nat} {x : Str} (S : CompSc N sc scope Nc caps j x) (env : Env) : CompSc N (relabel sc env) scope Nc caps j x where
  kind := S.kind
  nocell := S.nocell
  loc := S.loc
  fre := fun y hy hk => by
    rcases S.fre y hy hk with q | q
    · exact .inl (relabel_cell q)
    · rcases relabel_fwd (env := env) q with z | z
      · exact .inr z
      · exact .inl z.2
  len := S.len
  nd := S.nd
  cap := S.cap
  var := S.var
  slot := S.slot
  own := S.own
end
end L2
set_option Elab.async false
set_option linter.all false
set_option maxRecDepth 100000
namespace L2
open PySem PySem.Spec PyProof.Rows
section
variable {X : Cx}
theorem call_maxL (hc : X.calm = true) : CallR X (.builtin "max") (fun xs H Q => ∃ (p : Addr) (ns : List Int), xs = [.ref p] ∧ SqL X.K H p (ns.map V.int) ∧ ns ≠ [] ∧ ∀ m, m ∈ ns → (∀ n ∈ ns, n ≤ m) → Q (.int m) H) := by
  intro pins s σ H xs us Q I r h
  obtain ⟨p, ns, rfl, hq, hne, q⟩ := h
  obtain ⟨u, rfl, rx⟩ := vals1 r
  cases rx
  obtain ⟨its, rv, pl, hz⟩ := I.list hq
  have hl := rv.length
  rw [List.length_map] at hl
  have hpos : 0 < ns.length := List.length_pos_iff.mpr hne
  have hpI : p ≠ s.heap.objs.size := fun z => by
    obtain ⟨o, ho, _⟩ := pl.isList
    exact absurd (Heap.lt_size ho) (by rw [z]; exact Nat.lt_irrefl _)
  have itm : ∀ (i : Nat) (v : Value), its.toArray[i]? = some v → i < ns.length ∧ ∃ t, v = .int (ns.getD i 0) t := fun i v hv => by
    have hv' : its[i]? = some v := by simpa using hv
    have hi := (List.getElem?_eq_some_iff.mp hv').1
    exact ⟨by omega, ints_at rv i v hv'⟩
  refine call_max_walk (wpAny_pyIter_list pl.isList ?_)
  refine ⟨s.heap.objs.size, _, _, its.toArray.size, _, _, fun i j => decide (ns.getD i 0 > ns.getD j 0), rfl, Walks.list (A := X.A.in1) (I.ok.hd hc) s.heap.objs.size p hpI its.toArray, ⟨⟨_, Heap.get?_push_size _ rfl, rfl, rfl⟩, ?_⟩, fun b hb => ?_, by rw [List.size_toArray]; omega, CmpOf.ints_gt (fun i => ns.getD i 0) fun i v hv => (itm i v hv).2, fun v h' tk hv kk => ?_⟩
  · obtain ⟨o, ho, r'⟩ := pl.isList
    exact ⟨o, Heap.get?_push_of_some _ ho, r'⟩
  · show b < (s.heap.push _).objs.size
    rw [Heap.size_push]
    rcases List.mem_cons.mp hb with e | e
    · rw [e]; exact Nat.lt_succ_self _
    · rw [List.mem_singleton.mp e]
      obtain ⟨o, ho, _⟩ := pl.isList
      exact Nat.lt_succ_of_lt (Heap.lt_size ho)
  · obtain ⟨h1, h2⟩ := argBest_gt (fun i => ns.getD i 0) (its.toArray.size - 1)
    obtain ⟨h3, t, e3⟩ := itm _ _ hv
    rw [List.size_toArray] at h1 h2 h3
    refine ⟨.int _, H, I.kept (t' := tk) fun b o e => kk b o (fun hm => ?_) (Heap.get?_push_of_some _ e), ⟨t, e3⟩, q _ ?_ fun n hn => ?_⟩
    · exact absurd (Heap.lt_size e) (by rw [List.mem_singleton.mp hm]; exact Nat.lt_irrefl _)
    · rw [List.size_toArray, List.getD_eq_getElem?_getD, List.getElem?_eq_getElem h3, Option.getD_some]; exact List.getElem_mem h3
    · obtain ⟨i, hi, rfl⟩ := List.getElem_of_mem hn
      have := h2 i (by omega)
      rw [List.size_toArray]
      simpa [List.getD_eq_getElem?_getD, List.getElem?_eq_getElem hi] using this
theorem call_sumK {K : PySem.W.Frag} (h : X.K = K) : CallR X (.builtin "sum") (fun xs H Q => ∃ (p : Addr) (ns : List Int), xs = [.ref p] ∧ SqL K H p (ns.map V.int) ∧ Q (.int ns.sum) H) := h ▸ call_sum
theorem sl_listK {K : PySem.W.Frag} (h : X.K = K) : SlR X (rSlL K) := h ▸ sl_list
end
theorem comp_rangeF {lo : Int} {n : Nat} {caps : List (Option Nat)} {j : Nat} {ti : TT} {te : TE} {σ : St} {H1 : Hp} {D : Addr} {Q : VK} (f : Nat → V) (keep : Nat → Bool) (hD : H1 D = none) (hn : n ≤ 100000)
    (tst : ∀ (i : Nat) H2 Q', i < n → Same H1 H2 → Q' (keep i) H2 → ti ((capOf caps σ).set j (some (.int (lo + i)))) H2 Q')
    (step : ∀ (i : Nat) H2 Q', i < n → keep i = true → Same H1 H2 → Q' (f i) H2 → te ((capOf caps σ).set j (some (.int (lo + i)))) H2 Q')
    (fin : ∀ H2, Same H1 H2 → H2 D = some (.lst (((List.range n).filter keep).map f)) → Q (.ref D) H2) : CompW (Itr lo n) caps j ti te σ H1 D Q := by
  have hz : 100000 < sizeLine := by decide
  refine ⟨fun i m H2 => m = n - i ∧ i ≤ n ∧ Same H1 H2 ∧ H2 D = some (.lst (((List.range i).filter keep).map f)), ⟨n, by simp, Nat.zero_le _, Same.new hD _, upd_same⟩, ?_⟩
  rintro i m H2 ⟨rfl, hi, sm, hl⟩
  by_cases hlt : i < n
  · refine .inr ⟨hlt, fun x H3 hx => ?_⟩
    obtain ⟨rfl, rfl⟩ := hx
    refine tst i _ _ hlt sm ?_
    have hlen : ((List.range i).filter keep).length ≤ i := by have := List.length_filter_le keep (List.range i); rw [List.length_range] at this; exact this
    cases hk : keep i with
    | true =>
      rw [if_pos rfl]
      refine step i _ _ hlt hk sm ⟨_, hl, by rw [List.length_map]; omega, n - (i + 1), by omega, rfl, by omega, sm.upd hD hl _, ?_⟩
      rw [upd_same, List.range_succ, List.filter_append, List.map_append]
      simp [hk]
    | false =>
      rw [if_neg Bool.false_ne_true]
      refine ⟨n - (i + 1), by omega, rfl, by omega, sm, ?_⟩
      rw [hl, List.range_succ, List.filter_append, List.map_append]
      simp [hk]
  · have e : i = n := by omega
    subst e
    exact .inl ⟨Nat.le_refl _, fin H2 sm hl⟩
end L2
set_option Elab.async false
set_option linter.all false
set_option maxRecDepth 100000
set_option exponentiation.threshold 5000
namespace SC
open PySem L2 PyProof.Rows
inductive CN where
  | StrewError | BadRule | BadKey | BadSize | Full | TooMany | Row | Growing
def wholeV (v : V) (lo hi : Int) : Bool := match v with | .int i => decide (lo ≤ i) && decide (i ≤ hi) | _ => false
theorem wholeV_int {i lo hi : Int} (h1 : lo ≤ i) (h2 : i ≤ hi) : wholeV (.int i) lo hi = true := by simp [wholeV, h1, h2]
def spWhole : Sp := fun vs H Q _ => ∃ x lo hi T, vs = [x, .int lo, .int hi] ∧ Kn H x T ∧ Q (.bl (wholeV x lo hi)) H
def spCheckKey (cK : Addr) : Sp := fun vs H Q E => ∃ v T, vs = [v] ∧ Kn H v T ∧ if wholeV v 0 999999 = true then Q .non H else E (.ref cK) none H
def spCheckSize (cZ : Addr) : Sp := fun vs H Q E => ∃ v T, vs = [v] ∧ Kn H v T ∧ if wholeV v 2 64 = true then Q .non H else E (.ref cZ) none H
def spCheckCount (cZ : Addr) : Sp := fun vs H Q E => ∃ v lo hi T, vs = [v, .int lo, .int hi] ∧ Kn H v T ∧ if wholeV v lo hi = true then Q .non H else E (.ref cZ) none H
def spPow : Sp := fun vs H Q _ => ∃ b e : Int, vs = [.int b, .int e] ∧ (0 ≤ b ∧ b < 2 ^ 64) ∧ (0 ≤ e ∧ e ≤ 1000) ∧ Q (.int (b ^ e.toNat)) H
theorem divC {i j : Int} (h : 0 < j) (h2 : j ≤ 2 ^ 64) : CDivA i j := ⟨h, Int.lt_of_le_of_lt h2 (by decide)⟩
theorem mulC {i j : Int} (h1 : 0 ≤ j) (h2 : j < 2 ^ 64) : CMulA i j := .inl (.inr ⟨by omega, h2⟩)
theorem mulD {i j : Int} (h1 : 0 ≤ i) (h2 : i < 2 ^ 64) : CMulA i j := .inl (.inl ⟨by omega, h2⟩)
theorem divN {i : Int} {j : Nat} (h1 : 0 < j) (h2 : j < 2 ^ 950) : CDivA i (j : Int) := by
  refine ⟨by omega, ?_⟩
  have e : ((2 ^ 950 : Nat) : Int) < (2 : Int) ^ 1000 := by decide
  exact Int.lt_trans (Int.ofNat_lt.mpr h2) e
theorem posJ {j : Int} (h : 0 < j) : 0 < j := h
theorem bigM (x : Int) : (x % 340282366920938463463374607431768211507).natAbs < 2 ^ 1000 := by
  have h0 := Int.emod_nonneg x (b := 340282366920938463463374607431768211507) (by decide)
  have h1 := Int.emod_lt_of_pos x (b := 340282366920938463463374607431768211507) (by decide)
  generalize x % 340282366920938463463374607431768211507 = m at h0 h1
  exact Nat.lt_of_lt_of_le (show m.natAbs < 340282366920938463463374607431768211507 by omega) (by decide)
theorem mulM (x : Int) : CMulA (x % 340282366920938463463374607431768211507) (x % 340282366920938463463374607431768211507) := .inr ⟨bigM x, bigM x⟩
theorem atI_mem {xs : List V} {i : Int} (h0 : 0 ≤ i) (h1 : i < xs.length) : ∃ v, atI xs i = some v ∧ v ∈ xs := by
  have h2 : i.toNat < xs.length := by omega
  have e : ((i.toNat : Nat) : Int) = i := by omega
  refine ⟨xs[i.toNat], ?_, List.getElem_mem h2⟩
  have := atI_nat (xs := xs) (j := i.toNat) (v := xs[i.toNat]) (by simp [h2])
  rw [e] at this
  exact this
theorem pick {xs : List V} (m n : Int) (h : n = xs.length) (hn : 0 < n) : ∃ v, atI xs (m % n) = some v ∧ v ∈ xs :=
  atI_mem (Int.emod_nonneg _ (by omega)) (by rw [← h]; exact Int.emod_lt_of_pos _ hn)
def spCell (K : PySem.W.Frag) : Sp := fun vs H Q _ => ∃ p ns k, vs = [.ref p, .int k] ∧ SqL K H p (List.map V.int ns) ∧ ns.length ≤ 63 ∧ (0 ≤ k ∧ k < 64) ∧ ∀ c H', Same H H' → Q (.int c) H'
def spDrawn : Sp := fun vs H Q _ => ∃ c k, vs = [.int c, .int k] ∧ ∀ m, 0 ≤ m → m < 2 ^ 128 → Q (.int m) H
theorem flat_ints (ns : List Int) : (ns.map V.int).all flatV = true := by
  rw [List.all_map]
  exact List.all_eq_true.mpr fun _ _ => rfl
theorem seq_cut {t u : TS} {D : Ends} {σ : L2.St} {H : Hp} (Post : L2.St → Hp → Prop) (h1 : ∀ U : L2.St → Hp → Prop, (∀ σ' H', Post σ' H' → U σ' H') → t { D with nx := U } σ H) (h2 : ∀ σ' H', Post σ' H' → u D σ' H') : tSeq t u D σ H := h1 _ h2
def spLaw (K : PySem.W.Frag) : Sp := fun vs H Q _ => ∃ (a : Addr) (ns : List Int), vs = [.ref a] ∧ SqL K H a (ns.map V.int) ∧ ns.length ≤ 63 ∧ ∀ H', Q (.bl true) H'
theorem bt_sorted : bootBuiltins "sorted" = some (.builtin "sorted") := by decide +kernel
def PairAt (H : Hp) (v : V) (a : Nat × Nat) : Prop := ∃ p, v = .ref p ∧ H p = some (.tup [.int a.1, .int a.2])
theorem PairAt.same {H H' : Hp} {v : V} {a : Nat × Nat} (s : Same H H') (h : PairAt H v a) : PairAt H' v a := let ⟨p, e, q⟩ := h; ⟨p, e, s _ _ q⟩
end SC
set_option Elab.async false
set_option linter.all false
set_option maxRecDepth 100000
set_option exponentiation.threshold 5000
namespace SC
open PySem L2 PyProof.Rows
structure Wd (K : PySem.W.Frag) (cl : CN → Addr) (C : Addr) (j : Nat) : Prop where
  k : ExcK K C
  e : PySem.W.exmOne K (.ref C) (.ref (cl .StrewError)) = some true
  f0 : PySem.W.kitOne K (.ref C) (.ref (cl .BadRule)) = some (j == 0)
  f1 : PySem.W.kitOne K (.ref C) (.ref (cl .BadKey)) = some (j == 1)
  f2 : PySem.W.kitOne K (.ref C) (.ref (cl .BadSize)) = some (j == 2)
  f3 : PySem.W.kitOne K (.ref C) (.ref (cl .Full)) = some (j == 3)
  f4 : PySem.W.kitOne K (.ref C) (.ref (cl .TooMany)) = some (j == 4)
  v : PySem.W.kitOne K (.ref C) (.type "ValueError") = some true
theorem markR {k : Nat} {A : Around} {x : Option Value} (r : Room k A) : Room k (A.mark x) := ⟨r.dp, r.un⟩
theorem ixN_nat {n j : Nat} (h : j < n) : ixN n (j : Int) = some j := by
  unfold ixN
  rw [if_pos (by omega), if_pos (by omega), Int.toNat_natCast]
def nm (j : Nat) : Str := ["BadRule", "BadKey", "BadSize", "Full", "TooMany"].getD j ""
theorem kc {K : PySem.W.Frag} {C c : Addr} {b : Bool} (h : PySem.W.kitOne K (.ref C) (.ref c) = some b) : ∀ u, RelV (.ref c) u → PySem.W.kitOne K (.ref C) u = some b := fun u e => by cases e; exact h
theorem kty {K : PySem.W.Frag} {C : Addr} {n : String} {b : Bool} (h : PySem.W.kitOne K (.ref C) (.type n) = some b) : ∀ u, RelV (.ty n) u → PySem.W.kitOne K (.ref C) u = some b := fun u e => by cases e; exact h
def flagI : V → V
  | .bl b => .int (if b then 1 else 0)
  | _ => .non
def spWord (K : PySem.W.Frag) (cl : CN → Addr) : Sp := fun vs H Q _ => ∃ a o C j, vs = [.ref a] ∧ H a = some (frzE o) ∧ ExcObj C o ∧ Wd K cl C j ∧ j < 5 ∧ ∀ H', Same H H' → Q (.str (nm j)) H'
theorem j5 {j : Nat} (h : j < 5) : j = 0 ∨ j = 1 ∨ j = 2 ∨ j = 3 ∨ j = 4 := by omega
theorem itp {c : Prop} [Decidable c] {a b : Prop} (h : c) (x : a) : if c then a else b := by rw [if_pos h]; exact x
theorem itn {c : Prop} [Decidable c] {a b : Prop} (h : ¬ c) (x : b) : if c then a else b := by rw [if_neg h]; exact x
theorem rngN (L n : Int) (h : 0 ≤ L) (hn : 1 ≤ n) : 1 ≤ (if (if L < n then L else n) > 1 then (if L < n then L else n) else 1) ∧ (if (if L < n then L else n) > 1 then (if L < n then L else n) else 1) ≤ n := by
  split <;> split <;> omega
theorem eqVs_pair {a b : Int} : (!eqVs [.int a, .int b] [.int a, .int b]) = false := by simp [eqVs, eqV]
end SC
namespace SC
open PySem L2 PyProof.Rows
def spNext : Sp := fun vs H Q _ => ∃ p s : Int, vs = [.int p, .int s] ∧ 0 < s ∧ Q (.int ((p + 1) % s)) H
def spWayOn : Sp := fun vs H Q _ => ∃ a p s : Int, vs = [.int a, .int p, .int s] ∧ 0 < s ∧ Q (.int ((p - a) % s)) H
def nats (l : List Nat) : List V := l.map fun (x : Nat) => V.int (x : Int)
def dk (acc : List Nat) : List (Key × V) := acc.map fun (p : Nat) => (Sum.inl (p : Int), V.bl true)
end SC
namespace SC
open PySem L2 PyProof.Rows
def Pairs (ps : List (V × V)) (vs : List V) (H : Hp) : Prop := vs.length = ps.length ∧ ∀ (i : Nat) p, ps[i]? = some p → ∃ t, vs[i]? = some (.ref t) ∧ H t = some (.tup [p.1, p.2])
theorem Pairs.same {ps : List (V × V)} {vs : List V} {H H' : Hp} (s : Same H H') (h : Pairs ps vs H) : Pairs ps vs H' := ⟨h.1, fun i p e => let ⟨t, a, b⟩ := h.2 i p e; ⟨t, a, s _ _ b⟩⟩
inductive PR (σ : L2.St) : TA → List (V × V) → Prop where
  | nil : PR σ tNil []
  | cons {ta tb : TE} {tr : TA} {a b : V} {ps : List (V × V)} (ha : ∀ H Q, Q a H → ta σ H Q) (hb : ∀ H Q, Q b H → tb σ H Q) (r : PR σ tr ps) : PR σ (tCons (tTup (tCons ta (tCons tb tNil))) tr) ((a, b) :: ps)
theorem PR.read {σ : L2.St} {t : TA} {ps : List (V × V)} (h : PR σ t ps) : ∀ (H : Hp) (Q : List V → Hp → Prop), (∀ vs H', Same H H' → Pairs ps vs H' → Q vs H') → t σ H Q := by
  induction h with
  | nil => intro H Q q; exact q [] H (Same.refl H) ⟨rfl, fun i p e => by simp at e⟩
  | cons ha hb r ih =>
    intro H Q q
    refine ha _ _ (hb _ _ ⟨(show 2 ≤ sizeLine by decide), fun t ht => ih _ _ fun vs H' sm pv => ?_⟩)
    refine q (.ref t :: vs) H' ((Same.new ht _).trans sm) ⟨by rw [List.length_cons, List.length_cons, pv.1], fun i p e => ?_⟩
    cases i with
    | zero =>
      simp only [List.getElem?_cons_zero, Option.some.injEq] at e
      subst e
      exact ⟨t, rfl, sm _ _ upd_same⟩
    | succ i => simpa using pv.2 i p (by simpa using e)
theorem pickI (m : Int) {n : Nat} (hn : 0 < n) : ∃ i : Nat, i < n ∧ m % (n : Int) = (i : Int) := by
  have h0 := Int.emod_nonneg m (b := (n : Int)) (by omega)
  have h1 := Int.emod_lt_of_pos m (b := (n : Int)) (by omega)
  exact ⟨(m % (n : Int)).toNat, by omega, by omega⟩
end SC
namespace SC
open PySem L2 PyProof.Rows
end SC
namespace SC
open PySem L2 PyProof.Rows
theorem seq_nx {u : TS} {D : Ends} {σ : L2.St} {H : Hp} (h : u D σ H) : tSeq Ends.nx u D σ H := h
end SC
set_option linter.all false
namespace S40
def mem (p : Nat) : List Nat → Bool
  | [] => false
  | q :: r => Nat.beq p q || mem p r
theorem mem_iff {p : Nat} : ∀ {l : List Nat}, mem p l = true ↔ p ∈ l
  | [] => by simp [mem]
  | q :: r => by
    rw [mem, Bool.or_eq_true, mem_iff, List.mem_cons]
    constructor
    · rintro (h | h)
      · exact .inl (Nat.eq_of_beq_eq_true h)
      · exact .inr h
    · rintro (h | h)
      · exact .inl (by rw [h]; exact Nat.beq_refl q)
      · exact .inr h
def tOf (s : Nat) (acc : List Nat) : Nat → Nat → Nat
  | 0, _ => 0
  | f + 1, p => bif mem p acc then tOf s acc f ((p + 1) % s) + 1 else 0
def tt (s : Nat) (acc : List Nat) (p : Nat) : Nat := tOf s acc s p
def fps (s : Nat) (acc : List Nat) : List Nat → List Nat
  | [] => acc
  | h :: r => fps s (acc ++ [(h + tt s acc h) % s]) r
def wts (s : Nat) (acc : List Nat) : List Nat → Nat
  | [] => 0
  | h :: r => tt s acc h + wts s (acc ++ [(h + tt s acc h) % s]) r
end S40
set_option Elab.async false
set_option linter.all false
set_option maxRecDepth 100000
set_option exponentiation.threshold 5000
namespace SC
open PySem L2 PyProof.Rows S40
def spFirsts : Sp := fun vs H Q _ => ∃ (L : Addr) (s : Nat) (starts : List Nat), vs = [.ref L, .int s] ∧ H L = some (.lst (nats starts)) ∧ (∀ x ∈ starts, x < s) ∧ starts.length < s ∧ s ≤ 1000 ∧ ∀ p H', Same H H' → H' p = some (.lst (nats (fps s [] starts))) → Q (.ref p) H'
end SC
set_option linter.all false
namespace S41
def red (t u : Nat) : Nat × Nat := (t / Nat.gcd t u, u / Nat.gcd t u)
def fall (n : Nat) : Nat → Nat
  | 0 => 1
  | i + 1 => fall n i * (n - i)
def topP (s n : Nat) (w : Nat → Nat) : Nat → Nat
  | 0 => 0
  | i + 1 => topP s n w i * s + w i * fall n i
def serF (s n : Nat) (w : Nat → Nat) : Nat × Nat := red (s ^ n + topP s n w (n + 1)) (2 * s ^ n)
def missF (s m : Nat) : Nat × Nat := serF s m (· + 1)
def hitF (s m : Nat) : Nat × Nat := serF s (m - 1) (fun _ => 1)
def lmT (s m : Nat) : Nat → Nat
  | 0 => 0
  | i + 1 => (m - i + 1) * s ^ i * s + i * lmT s m i
def lawMiss (s m : Nat) : Nat × Nat := red (lmT s m (m + 1) + s ^ (m + 1)) (2 * s ^ (m + 1))
def plus (a b : Nat × Nat) : Nat × Nat := red (a.1 * b.2 + b.1 * a.2) (a.2 * b.2)
def less (a b : Nat × Nat) : Bool := Nat.blt (a.1 * b.2) (b.1 * a.2)
def tog (s : Nat) : Nat → Nat × Nat
  | 0 => (0, 1)
  | i + 1 => plus (tog s i) (missF s i)
def bef (s : Nat) : Nat → Nat × Nat
  | 0 => (0, 1)
  | i + 1 => missF s i
def B : Nat := 2 ^ 450
def small (a : Nat × Nat) : Bool := Nat.blt a.1 B && Nat.blt a.2 B && Nat.blt 0 a.2
def same (a b : Nat × Nat) : Bool := Nat.beq a.1 b.1 && Nat.beq a.2 b.2
def good1 (s i : Nat) (f t b h l : Nat × Nat) : Bool :=
  !less f b && (Nat.beq i 0 || (same h (red t.1 (t.2 * i)) && !less f h && small h)) && same l f && small f && small t && small b
def good (s i : Nat) : Bool := good1 s i (missF s i) (tog s i) (bef s i) (hitF s i) (lawMiss s i)
def goodAll (s : Nat) : Nat → Bool
  | 0 => true
  | i + 1 => goodAll s i && good s i
def goodS : Nat → Bool
  | 0 => true
  | s + 1 => goodS s && (if s < 2 then true else goodAll s s && same (missF s 0) (1, 1) && same (hitF s 1) (1, 1))
end S41
set_option linter.all false
namespace S40
def digs (s : Nat) : Nat → Nat → List Nat
  | 0, _ => []
  | m + 1, n => n % s :: digs s m (n / s)
theorem digs_snoc (s : Nat) : ∀ m n, digs s (m + 1) n = digs s m n ++ [n / s ^ m % s]
  | 0, n => by simp [digs]
  | m + 1, n => by
    rw [digs, digs_snoc s m (n / s), digs, List.cons_append, Nat.div_div_eq_div_mul, Nat.pow_succ, Nat.mul_comm s]
theorem digs_len (s : Nat) : ∀ m n, (digs s m n).length = m
  | 0, _ => rfl
  | m + 1, n => by rw [digs, List.length_cons, digs_len s m]
def wt (s m n : Nat) : Nat := wts s [] (digs s m n)
def sumN (f : Nat → Nat) : Nat → Nat
  | 0 => 0
  | n + 1 => sumN f n + f n
def looks (s : Nat) (acc : List Nat) : Nat := sumN (fun b => 1 + tt s acc b) s
def lk (s m n : Nat) : Nat := looks s (fps s [] (digs s m n))
def cnt (s m d : Nat) : Nat → Nat
  | 0 => 0
  | n + 1 => cnt s m d n + (if wt s m n = d then 1 else 0)
open S41 (red missF hitF same)
def chk1 (s m whole lo w : Nat) : Bool := same (missF s m) (red lo (whole * s)) && (Nat.beq m 0 || same (hitF s m) (red (w + whole * m) (whole * m)))
def chk (s m : Nat) : Bool := chk1 s m (s ^ m) (sumN (lk s m) (s ^ m)) (sumN (wt s m) (s ^ m)) && Nat.beq (2 * wt s m 0) (m * (m - 1))
def combos : List (Nat × Nat) := [(2, 1), (3, 2), (4, 3), (5, 4), (6, 4), (7, 3), (32, 2), (9, 3)]
def chkTo (s : Nat) : Nat → Bool
  | 0 => chk s 0
  | m + 1 => chkTo s m && chk s (m + 1)
end S40
set_option Elab.async false
set_option linter.all false
set_option maxRecDepth 100000
set_option exponentiation.threshold 5000
namespace SC
open PySem L2 PyProof.Rows S41
def spGcd : Sp := fun vs H Q _ => ∃ t u : Nat, vs = [.int t, .int u] ∧ 0 < u ∧ Q (.int (Nat.gcd t u : Nat)) H
def spFrac : Sp := fun vs H Q _ => ∃ t u : Nat, vs = [.int t, .int u] ∧ 0 < u ∧ u < 2 ^ 950 ∧ ∀ v H', Same H H' → PairAt H' v (red t u) → Q v H'
def okMany (v m : V) (l : Int) : Bool := match v with | .int s => wholeV (.int s) 2 64 && wholeV m l (s - 1) | _ => false
def spCheckMany (cZ : Addr) : Sp := fun vs H Q E => ∃ v m l T T', vs = [v, m, .int l] ∧ Kn H v T ∧ Kn H m T' ∧ if okMany v m l = true then Q .non H else E (.ref cZ) none H
def spSer : Sp := fun vs H Q _ => ∃ (s n : Nat) (w : Nat → Nat) (p : Addr), vs = [.int s, .ref p] ∧ H p = some (.lst ((List.range (n + 1)).map fun i => .int (w i))) ∧ (2 ≤ s ∧ s ≤ 64) ∧ n ≤ 63 ∧ (∀ i, i ≤ n → w i ≤ 100) ∧ ∀ v H', Same H H' → PairAt H' v (serF s n w) → Q v H'
def spHit (cZ : Addr) : Sp := fun vs H Q E => ∃ v m T T', vs = [v, m] ∧ Kn H v T ∧ Kn H m T' ∧ if okMany v m 1 = true then ∀ (s k : Nat), v = .int s → m = .int k → 2 ≤ s → 1 ≤ k → k < s → ∀ x H', Same H H' → PairAt H' x (hitF s k) → Q x H' else E (.ref cZ) none H
def spMiss (cZ : Addr) : Sp := fun vs H Q E => ∃ v m T T', vs = [v, m] ∧ Kn H v T ∧ Kn H m T' ∧ if okMany v m 0 = true then ∀ (s k : Nat), v = .int s → m = .int k → 2 ≤ s → k < s → ∀ x H', Same H H' → PairAt H' x (missF s k) → Q x H' else E (.ref cZ) none H
def spPlus : Sp := fun vs H Q _ => ∃ v w a b, vs = [v, w] ∧ PairAt H v a ∧ PairAt H w b ∧ (a.1 < 2 ^ 450 ∧ a.2 < 2 ^ 450 ∧ 0 < a.2) ∧ (b.1 < 2 ^ 450 ∧ b.2 < 2 ^ 450 ∧ 0 < b.2) ∧ ∀ x H', Same H H' → PairAt H' x (plus a b) → Q x H'
def spUnder : Sp := fun vs H Q _ => ∃ v w a b, vs = [v, w] ∧ PairAt H v a ∧ PairAt H w b ∧ (a.1 < 2 ^ 450 ∧ a.2 < 2 ^ 450) ∧ (b.1 < 2 ^ 450 ∧ b.2 < 2 ^ 450) ∧ Q (.bl (less a b)) H
def spMissL : Sp := fun vs H Q _ => ∃ (s m : Nat), vs = [.int s, .int m] ∧ (2 ≤ s ∧ s ≤ 64) ∧ m < s ∧ ∀ x H', Same H H' → PairAt H' x (lawMiss s m) → Q x H'
theorem gcd_pos {t u : Nat} (h : 0 < u) : 0 < Nat.gcd t u := Nat.gcd_pos_of_pos_right t h
theorem gcd_le {t u : Nat} (h : 0 < u) : Nat.gcd t u ≤ u := Nat.gcd_le_right t h
theorem pow_small {s n : Nat} (h1 : s ≤ 64) (h2 : n ≤ 64) : s ^ n ≤ 2 ^ 400 :=
  Nat.le_trans (Nat.pow_le_pow_left h1 n) (Nat.le_trans (Nat.pow_le_pow_right (by decide) h2) (by decide))
end SC
namespace SC
open PySem L2 PyProof.Rows S41
theorem rep_one {α : Type} (x : α) : ∀ k : Nat, (List.replicate k [x]).flatten = (List.range k).map fun _ => x
  | 0 => rfl
  | k + 1 => by
    rw [List.replicate_succ, List.flatten_cons, rep_one x k, List.range_succ_eq_map, List.map_cons, List.map_map]
    rfl
end SC
namespace SC
open PySem L2 PyProof.Rows S41
end SC
set_option Elab.async false
set_option linter.all false
set_option maxRecDepth 100000
set_option exponentiation.threshold 5000
namespace SC
open PySem L2 PyProof.Rows S41 S40
def spStarts : Sp := fun vs H Q _ => ∃ (n s m : Nat), vs = [.int n, .int s, .int m] ∧ 0 < s ∧ s ≤ 1000 ∧ m ≤ 1000 ∧ ∀ p H', Same H H' → H' p = some (.lst (nats (digs s m n))) → Q (.ref p) H'
def spWaysT : Sp := fun vs H Q _ => ∃ (L : Addr) (s : Nat) (starts : List Nat), vs = [.ref L, .int s] ∧ H L = some (.lst (nats starts)) ∧ (∀ x ∈ starts, x < s) ∧ starts.length < s ∧ s ≤ 1000 ∧ ∀ H', Same H H' → Q (.int (wts s [] starts)) H'
def cntL (s k n : Nat) : List V := (List.range (k * (k - 1) / 2 + 1)).map fun d => V.int (cnt s k d n : Nat)
def spSpread (cZ cT : Addr) : Sp := fun vs H Q E => ∃ v m T T', vs = [v, m] ∧ Kn H v T ∧ Kn H m T' ∧ if okMany v m 0 = true then ∀ (s k : Nat), v = .int s → m = .int k → 2 ≤ s → s ≤ 64 → k < s → if s ^ k ≤ 4096 then ∀ p H', Same H H' → H' p = some (.lst (cntL s k (s ^ k))) → Q (.ref p) H' else E (.ref cT) none H else E (.ref cZ) none H
def spGone : Sp := fun vs H Q _ => ∃ (s n m : Nat), vs = [.int s, .int n, .int m] ∧ (2 ≤ s ∧ s ≤ 100) ∧ m < s ∧ ∀ v H', Same H H' → PairAt H' v (wt s m n, lk s m n) → Q v H'
def bls (s : Nat) (acc : List Nat) : List V := (List.range s).map fun p => V.bl (S40.mem p acc)
def spToldA (cl : CN → Addr) : Sp := fun vs H Q _ => ∃ (w : Nat) (v m : V) (T T' : Ty6), vs = [.int w, v, m] ∧ w < 3 ∧ Kn H v T ∧ Kn H m T' ∧
  if okMany v m (if w = 1 then 1 else 0) = true then ∀ (s k : Nat), v = .int s → m = .int k → 2 ≤ s → s ≤ 64 → k < s → (w = 1 → 1 ≤ k) →
    if w = 0 then (if s ^ k ≤ 4096 then ∀ p H', Same H H' → H' p = some (.lst (cntL s k (s ^ k))) → Q (.ref p) H' else ∀ H', Same H H' → Q (.str (nm 4)) H')
    else ∀ x H', Same H H' → PairAt H' x (if w = 1 then hitF s k else missF s k) → Q x H'
  else ∀ H', Same H H' → Q (.str (nm 2)) H'
end SC
namespace SC
open PySem L2 PyProof.Rows S41 S40
structure Cn (s k i : Nat) (kvs : List (Key × V)) : Prop where
  val : ∀ d : Nat, valV kvs (Sum.inl (d : Int)) = if cnt s k d i = 0 then none else some (.int (cnt s k d i : Nat))
  keys : ∃ ns : List Nat, kvs.map (·.1) = ns.map (fun n : Nat => Sum.inl (n : Int)) ∧ ∀ n ∈ ns, n ≤ k * (k - 1) / 2
  len : kvs.length ≤ i
theorem Cn.nil (s k : Nat) : Cn s k 0 [] := ⟨fun d => rfl, ⟨[], rfl, fun n h => nomatch h⟩, Nat.le_refl _⟩
theorem Cn.getD {s k i : Nat} {kvs : List (Key × V)} (c : Cn s k i kvs) (d : Nat) : (valV kvs (Sum.inl (d : Int))).getD (.int 0) = .int (cnt s k d i : Nat) := by
  rw [c.val]
  by_cases z : cnt s k d i = 0
  · rw [if_pos z, z]; rfl
  · rw [if_neg z]; rfl
theorem Cn.step {s k i : Nat} {kvs : List (Key × V)} (c : Cn s k i kvs) (h : wt s k i ≤ k * (k - 1) / 2) : Cn s k (i + 1) (putK kvs (Sum.inl (wt s k i : Int)) (.int ((cnt s k (wt s k i) i : Nat) + 1))) := by
  refine ⟨fun d => ?_, ?_, Nat.le_trans (length_putK _ _ _) (by have := c.len; omega)⟩
  · rw [valV_put]
    have e : cnt s k d (i + 1) = cnt s k d i + (if wt s k i = d then 1 else 0) := rfl
    by_cases z : wt s k i = d
    · subst z
      rw [if_pos rfl, e, if_pos rfl, if_neg (by omega)]
      rfl
    · rw [if_neg (fun w => z (by have := Sum.inl.inj w; omega)), e, if_neg z, Nat.add_zero]
      exact c.val d
  · obtain ⟨ns, e1, e2⟩ := c.keys
    cases hv : valV kvs (Sum.inl (wt s k i : Int)) with
    | none =>
      refine ⟨ns ++ [wt s k i], ?_, fun n hn => ?_⟩
      · rw [putK_new _ hv, List.map_append, List.map_append, e1]; rfl
      · rcases List.mem_append.mp hn with q | q
        · exact e2 n q
        · rw [List.mem_singleton.mp q]; exact h
    | some v =>
      refine ⟨ns, ?_, e2⟩
      unfold putK
      rw [if_pos (by rw [valV_any, hv]; rfl), List.map_map, ← e1]
      refine List.map_congr_left fun p _ => ?_
      show (if p.1 = _ then (p.1, _) else p).1 = p.1
      split <;> rfl
theorem Cn.top {s k i : Nat} {kvs : List (Key × V)} (c : Cn s k i kvs) (h : 0 < cnt s k (k * (k - 1) / 2) i) : ∃ ns : List Int, kvs.map (·.1) = ns.map Sum.inl ∧ ns ≠ [] ∧ ∀ m, m ∈ ns → (∀ n ∈ ns, n ≤ m) → m = ((k * (k - 1) / 2 : Nat) : Int) := by
  obtain ⟨ns, e1, e2⟩ := c.keys
  have hv : valV kvs (Sum.inl ((k * (k - 1) / 2 : Nat) : Int)) = some (.int (cnt s k (k * (k - 1) / 2) i : Nat)) := by rw [c.val, if_neg (by omega)]
  have hin := valV_in hv
  rw [e1] at hin
  obtain ⟨g, hg, eg⟩ := List.mem_map.mp hin
  have eg' : g = k * (k - 1) / 2 := by have := Sum.inl.inj eg; omega
  subst eg'
  refine ⟨ns.map fun n : Nat => (n : Int), by rw [e1, List.map_map]; rfl, fun z => ?_, fun m hm hx => ?_⟩
  · have : ns = [] := List.map_eq_nil_iff.mp z
    rw [this] at hg; cases hg
  · obtain ⟨n, hn, rfl⟩ := List.mem_map.mp hm
    have h1 := e2 n hn
    have h2 := hx _ (List.mem_map.mpr ⟨_, hg, rfl⟩)
    omega
theorem sum_ints (f : Nat → Nat) : ∀ n, ((List.range n).map fun d => ((f d : Nat) : Int)).sum = (sumN f n : Int)
  | 0 => rfl
  | n + 1 => by rw [List.range_succ, List.map_append, List.sum_append, sum_ints f n]; simp [sumN]
def odds : List (V × V) := [(.int 1, .int 0), (.int 65, .int 1), (.int 5, .int 5), (.int 5, .int (-1)), (.int 5, .bl true), (.str "5", .int 1), (.int 5, .non), (.int 64, .int 64)]
def greats (x : Int) : List (V × V) := [(.int 64, .int 3), (.int 5, .int 4), (.int 8, .int 4), (.int 9, .int 4), (.int 17, .int 3), (.int 16, .int 3), (.int (65 - x), .int 4)]
end SC
namespace SC
open PySem L2 PyProof.Rows S41 S40
def sizesV : List (V × V) := [(.int 2, .int 1), (.int 3, .int 2), (.int 4, .int 3), (.int 5, .int 4), (.int 6, .int 4), (.int 7, .int 3), (.int 32, .int 2), (.int 9, .int 3)]
end SC
set_option Elab.async false
set_option linter.all false
set_option maxRecDepth 100000
namespace S51
open S40
def chs (n : Int) : Nat → Int
  | 0 => 1
  | k + 1 => chs n k * (n - (k : Nat)) / ((k : Int) + 1)
def zr : Nat → Int := fun _ => 0
def nrow (m k : Nat) (rows : List (Nat → Int)) : Nat → Int
  | 0 => 0
  | h + 1 => ((h : Int) + 1) * (rows.getD 0 zr (h + 1) - if m ≤ k then chs k m * rows.getD m zr h else 0)
def hs (m : Nat) : Nat → List (Nat → Int)
  | 0 => [fun _ => 1]
  | k + 1 => nrow m k (hs m k) :: hs m k
def cI (m k h : Nat) : Int := (hs m k).getD 0 zr h
theorem hs_at (m : Nat) : ∀ k j, j ≤ k → (hs m k).getD j zr = fun h => cI m (k - j) h
  | 0, 0, _ => rfl
  | 0, j + 1, h => absurd h (by omega)
  | k + 1, 0, _ => rfl
  | k + 1, j + 1, h => by
    show (hs m k).getD j zr = _
    rw [hs_at m k j (by omega), Nat.add_sub_add_right]
theorem cI_zero (m h : Nat) : cI m 0 h = 1 := rfl
theorem cI_ss (m k h : Nat) : cI m (k + 1) (h + 1) = ((h : Int) + 1) * (cI m k (h + 1) - if m ≤ k then chs k m * cI m (k - m) h else 0) := by
  show ((h : Int) + 1) * ((hs m k).getD 0 zr (h + 1) - if m ≤ k then chs k m * (hs m k).getD m zr h else 0) = _
  rw [hs_at m k 0 (Nat.zero_le _)]
  by_cases c : m ≤ k
  · rw [if_pos c, if_pos c, hs_at m k m c]; rfl
  · rw [if_neg c, if_neg c]; rfl
def nextL (m S k : Nat) (rows : List (List Int)) : List Int :=
  0 :: (List.range S).map fun (h : Nat) => ((h : Int) + 1) * ((rows.getD 0 []).getD (h + 1) 0 - if m ≤ k then chs k m * (rows.getD m []).getD h 0 else 0)
def ct (m S : Nat) : Nat → List (List Int)
  | 0 => [List.replicate (S + 1) 1]
  | k + 1 => nextL m S k (ct m S k) :: ct m S k
theorem ct_at (m S : Nat) : ∀ k j, j ≤ k → ∀ h, h ≤ S → ((ct m S k).getD j []).getD h 0 = cI m (k - j) h
  | 0, 0, _, h, hh => by
    show (List.replicate (S + 1) (1 : Int)).getD h 0 = 1
    rw [List.getD_eq_getElem?_getD, List.getElem?_replicate, if_pos (by omega)]; rfl
  | 0, j + 1, h, _, _ => absurd h (by omega)
  | k + 1, j + 1, hj, h, hh => by
    show ((ct m S k).getD j []).getD h 0 = _
    rw [ct_at m S k j (by omega) h hh, Nat.add_sub_add_right]
  | k + 1, 0, _, h, hh => by
    show (nextL m S k (ct m S k)).getD h 0 = cI m (k + 1) h
    cases h with
    | zero => rfl
    | succ h =>
      rw [cI_ss]
      show ((List.range S).map fun (h : Nat) => ((h : Int) + 1) * (((ct m S k).getD 0 []).getD (h + 1) 0 - if m ≤ k then chs k m * ((ct m S k).getD m []).getD h 0 else 0)).getD h 0 = _
      rw [List.getD_eq_getElem?_getD, List.getElem?_map, List.getElem?_range (by omega)]
      show ((h : Int) + 1) * (((ct m S k).getD 0 []).getD (h + 1) 0 - if m ≤ k then chs k m * ((ct m S k).getD m []).getD h 0 else 0) = _
      rw [ct_at m S k 0 (Nat.zero_le _) (h + 1) hh]
      by_cases c : m ≤ k
      · rw [if_pos c, if_pos c, ct_at m S k m c h (by omega)]; rfl
      · rw [if_neg c, if_neg c]; rfl
def tg (m k h : Nat) : Int := ((ct m 21 24).getD (24 - k) []).getD h 0
theorem tg_eq {m k h : Nat} (hk : k ≤ 24) (hh : h ≤ 21) : tg m k h = cI m k h := by
  unfold tg
  rw [ct_at m 21 24 (24 - k) (by omega) h hh, show 24 - (24 - k) = k by omega]
def all2 (a b : Nat) (P : Nat → Nat → Bool) : Bool := (List.range a).all fun i => (List.range b).all fun j => P i j
theorem all2_at {a b : Nat} {P : Nat → Nat → Bool} (h : all2 a b P = true) {i j : Nat} (hi : i < a) (hj : j < b) : P i j = true :=
  List.all_eq_true.mp (List.all_eq_true.mp h i (List.mem_range.mpr hi)) j (List.mem_range.mpr hj)
def okM (m : Nat) : Bool := all2 25 22 fun k h => decide (tg m k h ≤ tg (m + 1) k h) && (decide (k ≠ m) || decide (tg m k h = ((h ^ k : Nat) : Int)))
theorem okM_all : (List.range 25).all okM = true := by decide +kernel
theorem cI_mono {m k h : Nat} (hm : m ≤ 24) (hk : k ≤ 24) (hh : h ≤ 21) : cI m k h ≤ cI (m + 1) k h := by
  have := all2_at (List.all_eq_true.mp okM_all m (List.mem_range.mpr (by omega))) (i := k) (j := h) (by omega) (by omega)
  rw [Bool.and_eq_true] at this
  have h1 := of_decide_eq_true this.1
  rw [tg_eq hk hh, tg_eq hk hh] at h1
  exact h1
theorem cI_top {k h : Nat} (hk : k ≤ 24) (hh : h ≤ 21) : cI k k h = ((h ^ k : Nat) : Int) := by
  have := all2_at (List.all_eq_true.mp okM_all k (List.mem_range.mpr (by omega))) (i := k) (j := h) (by omega) (by omega)
  rw [Bool.and_eq_true, Bool.or_eq_true] at this
  rcases this.2 with c | c
  · exact absurd rfl (of_decide_eq_true c)
  · have h1 := of_decide_eq_true c
    rw [tg_eq hk hh] at h1
    exact h1
theorem cI_le {k h : Nat} (hk : k ≤ 24) (hh : h ≤ 21) {m n : Nat} (hmn : m ≤ n) (hn : n ≤ 24) : cI m k h ≤ cI n k h := by
  induction n with
  | zero => rw [Nat.le_zero.mp hmn]; exact Int.le_refl _
  | succ n ih =>
    rcases Nat.lt_or_eq_of_le hmn with c | c
    · exact Int.le_trans (ih (by omega) (by omega)) (cI_mono (by omega) hk hh)
    · rw [c]; exact Int.le_refl _
theorem cI_none (k : Nat) : ∀ h, cI 0 (k + 1) h = 0 := by
  induction k with
  | zero =>
    intro h
    cases h with
    | zero => rfl
    | succ h => rw [cI_ss, if_pos (Nat.le_refl _), cI_zero, cI_zero]; simp [chs]
  | succ k ih =>
    intro h
    cases h with
    | zero => rfl
    | succ h => rw [cI_ss, if_pos (Nat.zero_le _), ih, Nat.sub_zero, ih]; simp
def bI (m : Nat) : Nat → Nat → Int
  | 0, l => if l = 0 then 1 else 0
  | h + 1, l => (((List.range (min m l + 1)).filter fun j => decide (0 < bI m h (l - j))).map fun j => chs l j * bI m h (l - j)).sum
def brow (m : Nat) : Nat → List Int
  | 0 => 1 :: List.replicate 24 0
  | h + 1 => (List.range 25).map fun (l : Nat) => (((List.range (min m l + 1)).filter fun j => decide (0 < (brow m h).getD (l - j) 0)).map fun j => chs l j * (brow m h).getD (l - j) 0).sum
theorem brow_at (m : Nat) : ∀ h l, l ≤ 24 → (brow m h).getD l 0 = bI m h l
  | 0, 0, _ => rfl
  | 0, l + 1, h => by
    show (List.replicate 24 (0 : Int)).getD l 0 = 0
    rw [List.getD_eq_getElem?_getD, List.getElem?_replicate, if_pos (by omega)]; rfl
  | h + 1, l, hl => by
    show ((List.range 25).map fun (l : Nat) => (((List.range (min m l + 1)).filter fun j => decide (0 < (brow m h).getD (l - j) 0)).map fun j => chs l j * (brow m h).getD (l - j) 0).sum).getD l 0 = _
    rw [List.getD_eq_getElem?_getD, List.getElem?_map, List.getElem?_range (by omega)]
    have e : ∀ j, (brow m h).getD (l - j) 0 = bI m h (l - j) := fun j => brow_at m h (l - j) (by omega)
    show (((List.range (min m l + 1)).filter fun j => decide (0 < (brow m h).getD (l - j) 0)).map fun j => chs l j * (brow m h).getD (l - j) 0).sum = _
    simp only [e]
    rfl
def okB (m : Nat) : Bool := all2 25 22 fun k h => decide ((brow m h).getD k 0 = tg m k h)
theorem okB_all : (List.range 10).all okB = true := by decide +kernel
theorem bI_eq {m k h : Nat} (hm : m ≤ 9) (hk : k ≤ 24) (hh : h ≤ 21) : bI m h k = cI m k h := by
  have := of_decide_eq_true (all2_at (List.all_eq_true.mp okB_all m (List.mem_range.mpr (by omega))) (i := k) (j := h) (by omega) (by omega))
  rw [brow_at m h k hk, tg_eq hk hh] at this
  exact this
end S51
set_option Elab.async false
set_option linter.all false
set_option maxRecDepth 100000
namespace S51
open S40
def occ (p : Nat) : List Nat → Nat
  | [] => 0
  | x :: l => occ p l + (if x = p then 1 else 0)
theorem occ_snoc (p x : Nat) : ∀ l, occ p (l ++ [x]) = occ p l + (if x = p then 1 else 0)
  | [] => rfl
  | y :: l => by rw [List.cons_append, occ, occ_snoc p x l, occ]; omega
theorem occ_le (p : Nat) : ∀ l, occ p l ≤ l.length
  | [] => Nat.le_refl _
  | x :: l => by
    have := occ_le p l
    rw [occ, List.length_cons]
    split <;> omega
def mxF (f : Nat → Nat) : Nat → Nat
  | 0 => 0
  | p + 1 => max (mxF f p) (f p)
theorem mxF_le {f : Nat → Nat} {k : Nat} (h : ∀ p, f p ≤ k) : ∀ s, mxF f s ≤ k
  | 0 => Nat.zero_le _
  | s + 1 => Nat.max_le.mpr ⟨mxF_le h s, h s⟩
theorem mxF_ge {f : Nat → Nat} : ∀ s p, p < s → f p ≤ mxF f s
  | s + 1, p, h => by
    rcases Nat.lt_or_eq_of_le (Nat.le_of_lt_succ h) with c | c
    · exact Nat.le_trans (mxF_ge s p c) (Nat.le_max_left ..)
    · rw [c]; exact Nat.le_max_right ..
theorem mxF_mem {f : Nat → Nat} : ∀ s, 0 < s → ∃ p, p < s ∧ f p = mxF f s
  | 1, _ => ⟨0, by decide, by show f 0 = max 0 (f 0); omega⟩
  | s + 2, _ => by
    obtain ⟨p, hp, e⟩ := mxF_mem (f := f) (s + 1) (by omega)
    show ∃ p, p < s + 2 ∧ f p = max (mxF f (s + 1)) (f (s + 1))
    rcases Nat.le_total (mxF f (s + 1)) (f (s + 1)) with c | c
    · exact ⟨s + 1, by omega, (Nat.max_eq_right c).symm⟩
    · exact ⟨p, by omega, by rw [Nat.max_eq_left c, e]⟩
def mx (s k n : Nat) : Nat := mxF (fun p => occ p (digs s k n)) s
theorem mx_le (s k n : Nat) : mx s k n ≤ k := mxF_le (fun p => by have := occ_le p (digs s k n); rw [digs_len] at this; exact this) s
def hc (s k d : Nat) : Nat → Nat
  | 0 => 0
  | n + 1 => hc s k d n + (if mx s k n = d then 1 else 0)
def chkS (s k : Nat) : Bool := (List.range (k + 1)).all fun d => decide ((hc s k d (s ^ k) : Int) + (if d = 0 then 0 else ((ct (d - 1) s k).getD 0 []).getD s 0) = ((ct d s k).getD 0 []).getD s 0)
def combos : List (Nat × Nat) := [(2, 8), (3, 6), (4, 5), (5, 4), (6, 4), (2, 3), (9, 3)]
theorem chk_all : combos.all (fun p => (List.range (p.2 + 1)).all fun k => chkS p.1 k) = true := by decide +kernel
theorem hc_step {s k : Nat} (h : chkS s k = true) {d : Nat} (hd : d ≤ k) : (hc s k d (s ^ k) : Int) + (if d = 0 then 0 else cI (d - 1) k s) = cI d k s := by
  have := of_decide_eq_true (List.all_eq_true.mp h d (List.mem_range.mpr (by omega)))
  rw [ct_at d s k 0 (Nat.zero_le _) s (Nat.le_refl _), ct_at (d - 1) s k 0 (Nat.zero_le _) s (Nat.le_refl _)] at this
  exact this
theorem hc_sum {s k : Nat} (h : chkS s k = true) : ∀ d, d ≤ k → (sumN (fun d => hc s k d (s ^ k)) (d + 1) : Int) = cI d k s
  | 0, _ => by
    have := hc_step h (d := 0) (Nat.zero_le _)
    rw [if_pos rfl] at this
    show ((0 + hc s k 0 (s ^ k) : Nat) : Int) = _
    omega
  | d + 1, hd => by
    have i := hc_sum h d (by omega)
    have := hc_step h hd
    rw [if_neg (by omega), Nat.add_sub_cancel] at this
    show ((sumN (fun d => hc s k d (s ^ k)) (d + 1) + hc s k (d + 1) (s ^ k) : Nat) : Int) = _
    omega
def sumI (f : Nat → Int) : Nat → Int
  | 0 => 0
  | n + 1 => sumI f n + f n
theorem hc_abel {s k : Nat} (h : chkS s k = true) (W : Int) : ∀ d, d ≤ k → (sumN (fun d => d * hc s k d (s ^ k)) (d + 1) : Int) = d * cI d k s - d * W + sumI (fun n => W - cI n k s) d
  | 0, _ => by
    show ((0 + 0 * hc s k 0 (s ^ k) : Nat) : Int) = _
    simp [sumI]
  | d + 1, hd => by
    have i := hc_abel h W d (by omega)
    have := hc_step h hd
    rw [if_neg (by omega), Nat.add_sub_cancel] at this
    have e : sumN (fun d => d * hc s k d (s ^ k)) (d + 1 + 1) = sumN (fun d => d * hc s k d (s ^ k)) (d + 1) + (d + 1) * hc s k (d + 1) (s ^ k) := rfl
    have e2 : sumI (fun n => W - cI n k s) (d + 1) = sumI (fun n => W - cI n k s) d + (W - cI d k s) := rfl
    rw [e, e2, Int.natCast_add, i, Int.natCast_mul]
    have e3 : (hc s k (d + 1) (s ^ k) : Int) = cI (d + 1) k s - cI d k s := by omega
    rw [e3, Int.natCast_add, Int.mul_sub, Int.add_mul, Int.add_mul, Int.add_mul]
    simp only [Int.natCast_one, Int.one_mul]
    omega
end S51
set_option Elab.async false
set_option linter.all false
set_option maxRecDepth 100000
set_option exponentiation.threshold 5000
namespace SC
open PySem L2 PyProof.Rows S41 S40 S51
theorem mulS {i j : Int} (h1 : -100000 ≤ j) (h2 : j ≤ 100000) : CMulA i j := .inl (.inr ⟨by omega, by omega⟩)
theorem mulT {i j : Int} (h1 : -(2 ^ 64) < i) (h2 : i < 2 ^ 64) : CMulA i j := .inl (.inl ⟨h1, h2⟩)
def spChoices : Sp := fun vs H Q _ => ∃ (n k : Nat), vs = [.int n, .int k] ∧ n ≤ 1000 ∧ k ≤ 1000 ∧ Q (.int (chs n k)) H
theorem chs_b : (List.range 25).all (fun n => (List.range 25).all fun k => decide (-(2 ^ 64) < chs n k) && decide (chs n k < 2 ^ 64)) = true := by decide +kernel
theorem chs_small {n k : Nat} (hn : n ≤ 24) (hk : k ≤ 24) : -(2 ^ 64) < chs n k ∧ chs n k < 2 ^ 64 := by
  have := List.all_eq_true.mp (List.all_eq_true.mp chs_b n (List.mem_range.mpr (by omega))) k (List.mem_range.mpr (by omega))
  rw [Bool.and_eq_true] at this
  exact ⟨of_decide_eq_true this.1, of_decide_eq_true this.2⟩
def crow (m S k : Nat) : List V := (List.range (S + 1)).map fun h => V.int (cI m k h)
theorem crow_len (m S k : Nat) : (crow m S k).length = S + 1 := by unfold crow; rw [List.length_map, List.length_range]
theorem crow_at {m S k h : Nat} (hh : h ≤ S) : (crow m S k)[h]? = some (.int (cI m k h)) := by
  unfold crow
  rw [List.getElem?_map, List.getElem?_range (by omega)]; rfl
theorem rep_crow (m S : Nat) : (List.replicate (S + 1) [V.int 1]).flatten = crow m S 0 := by
  rw [rep_one]
  rfl
structure RowsAt (H : Hp) (C : Addr) (rs : List Addr) (m S K : Nat) : Prop where
  top : H C = some (.lst (rs.map V.ref))
  len : rs.length = K + 1
  ne : ∀ a ∈ rs, a ≠ C
  at_ : ∀ (j : Nat) (a : Addr), rs[j]? = some a → H a = some (.lst (crow m S j))
def spOneMore : Sp := fun vs H Q _ => ∃ (C : Addr) (rs : List Addr) (m S K : Nat), vs = [.ref C, .int m] ∧ RowsAt H C rs m S K ∧ S ≤ 100 ∧ K ≤ 24 ∧ m ≤ 24 ∧ ∀ l H', Same H H' → H l = none → H' l = some (.lst (crow m S (K + 1))) → Q (.ref l) H'
def spScat : Sp := fun vs H Q _ => ∃ (S N m : Nat), vs = [.int S, .int N, .int m] ∧ S ≤ 100 ∧ N ≤ 24 ∧ m ≤ 24 ∧ ∀ H', Same H H' → Q (.int (cI m N S)) H'
def okLong (v m : V) : Bool := wholeV v 2 64 && wholeV m 0 64
def longL (s k : Nat) : List V := (List.range (k + 1)).map fun m => V.int (cI m k s)
theorem longL_len (s k : Nat) : (longL s k).length = k + 1 := by unfold longL; rw [List.length_map, List.length_range]
theorem longL_ints (s k : Nat) : longL s k = ((List.range (k + 1)).map fun m => cI m k s).map V.int := by unfold longL; rw [List.map_map]; rfl
theorem longL_at {s k m : Nat} (h : m ≤ k) : (longL s k)[m]? = some (.int (cI m k s)) := by
  unfold longL
  rw [List.getElem?_map, List.getElem?_range (by omega)]; rfl
def spLongest (cZ : Addr) : Sp := fun vs H Q E => ∃ v m T T', vs = [v, m] ∧ Kn H v T ∧ Kn H m T' ∧ if okLong v m = true then ∀ (s k : Nat), v = .int s → m = .int k → 2 ≤ s → s ≤ 21 ∧ k ≤ 24 ∧ ∀ p H', Same H H' → H' p = some (.lst (longL s k)) → Q (.ref p) H' else E (.ref cZ) none H
def above (s k : Nat) : Nat := (sumI (fun n => ((s ^ k : Nat) : Int) - cI n k s) (k + 1)).toNat
def meanF (s k : Nat) : Nat × Nat := red (above s k) (s ^ k)
def spMean (cZ : Addr) : Sp := fun vs H Q E => ∃ v m T T', vs = [v, m] ∧ Kn H v T ∧ Kn H m T' ∧ if okLong v m = true then ∀ (s k : Nat), v = .int s → m = .int k → 2 ≤ s → s ≤ 21 ∧ k ≤ 24 ∧ ∀ x H', Same H H' → PairAt H' x (meanF s k) → Q x H' else E (.ref cZ) none H
def spToldM : Sp := fun vs H Q _ => ∃ (w : Nat) (v m : V) (T T' : Ty6), vs = [.int w, v, m] ∧ w < 2 ∧ Kn H v T ∧ Kn H m T' ∧ if okLong v m = true then ∀ (s k : Nat), v = .int s → m = .int k → 2 ≤ s → s ≤ 21 ∧ k ≤ 24 ∧ if w = 0 then ∀ p H', Same H H' → H' p = some (.lst (longL s k)) → Q (.ref p) H' else ∀ x H', Same H H' → PairAt H' x (meanF s k) → Q x H' else ∀ H', Same H H' → Q (.str (nm 2)) H'
theorem ofW {v : V} {lo hi : Int} (h : wholeV v lo hi = true) : ∃ i, v = .int i ∧ lo ≤ i ∧ i ≤ hi := by
  cases v with
  | int i =>
    simp only [wholeV, Bool.and_eq_true, decide_eq_true_eq] at h
    exact ⟨i, rfl, h.1, h.2⟩
  | _ => cases h
theorem okLong_nat {v m : V} (c : okLong v m = true) : ∃ s k : Nat, v = .int s ∧ m = .int k ∧ 2 ≤ s ∧ s ≤ 64 ∧ k ≤ 64 := by
  unfold okLong at c
  rw [Bool.and_eq_true] at c
  obtain ⟨i, rfl, a, b⟩ := ofW c.1
  obtain ⟨j, rfl, a', b'⟩ := ofW c.2
  exact ⟨i.toNat, j.toNat, by rw [Int.toNat_of_nonneg (by omega)], by rw [Int.toNat_of_nonneg (by omega)], by omega, by omega, by omega⟩
theorem sum_list (f : Nat → Int) : ∀ n, ((List.range n).map f).sum = sumI f n
  | 0 => rfl
  | n + 1 => by
    rw [List.range_succ, List.map_append, List.sum_append, sum_list f n]
    simp [sumI]
theorem sumI_nn {f : Nat → Int} : ∀ n, (∀ i, i < n → 0 ≤ f i) → 0 ≤ sumI f n
  | 0, _ => Int.le_refl _
  | n + 1, h => Int.add_nonneg (sumI_nn n fun i hi => h i (by omega)) (h n (by omega))
theorem above_eq {s k : Nat} (hs : s ≤ 21) (hk : k ≤ 24) : ((above s k : Nat) : Int) = sumI (fun n => ((s ^ k : Nat) : Int) - cI n k s) (k + 1) := by
  unfold above
  refine Int.toNat_of_nonneg (sumI_nn _ fun i hi => ?_)
  have h1 := cI_le (k := k) (h := s) hk hs (m := i) (n := k) (by omega) (by omega)
  rw [cI_top hk hs] at h1
  omega
end SC
namespace SC
open PySem L2 PyProof.Rows S41 S40 S51
def hgtL (s k n : Nat) : List V := (List.range (k + 1)).map fun d => V.int (hc s k d n : Nat)
def spHeights : Sp := fun vs H Q _ => ∃ (s k : Nat), vs = [.int s, .int k] ∧ 2 ≤ s ∧ s ≤ 100 ∧ k ≤ 100 ∧ s ^ k ≤ 5000 ∧ ∀ l H', Same H H' → H' l = some (.lst (hgtL s k (s ^ k))) → Q (.ref l) H'
def spBounded : Sp := fun vs H Q _ => ∃ (S N m : Nat), vs = [.int S, .int N, .int m] ∧ S ≤ 100 ∧ N ≤ 24 ∧ m ≤ 24 ∧ ∀ H', Same H H' → Q (.int (bI m S N)) H'
theorem hgtL_len (s k n : Nat) : (hgtL s k n).length = k + 1 := by unfold hgtL; rw [List.length_map, List.length_range]
theorem hgtL_at {s k n d : Nat} (h : d ≤ k) : (hgtL s k n)[d]? = some (.int (hc s k d n : Nat)) := by
  unfold hgtL
  rw [List.getElem?_map, List.getElem?_range (by omega)]
  rfl
theorem hgtL_set {s k n : Nat} : (hgtL s k n).set (mx s k n) (.int ((hc s k (mx s k n) n : Nat) + 1)) = hgtL s k (n + 1) := by
  have h := mx_le s k n
  refine List.ext_getElem? fun d => ?_
  by_cases hd : d ≤ k
  · rw [hgtL_at hd]
    by_cases c : mx s k n = d
    · subst c
      rw [List.getElem?_set_self (by rw [hgtL_len]; omega)]
      show some (V.int _) = some (V.int ((hc s k (mx s k n) n + (if mx s k n = mx s k n then 1 else 0) : Nat) : Int))
      rw [if_pos rfl]
      rfl
    · rw [List.getElem?_set_ne c, hgtL_at hd]
      show some (V.int _) = some (V.int ((hc s k d n + (if mx s k n = d then 1 else 0) : Nat) : Int))
      rw [if_neg c]
      rfl
  · rw [List.getElem?_eq_none (by rw [List.length_set, hgtL_len]; omega), List.getElem?_eq_none (by rw [hgtL_len]; omega)]
def occL (s : Nat) (ds : List Nat) : List V := (List.range s).map fun p => V.int (occ p ds : Nat)
theorem occL_len (s : Nat) (ds : List Nat) : (occL s ds).length = s := by unfold occL; rw [List.length_map, List.length_range]
theorem occL_at {s p : Nat} {ds : List Nat} (h : p < s) : (occL s ds)[p]? = some (.int (occ p ds : Nat)) := by
  unfold occL
  rw [List.getElem?_map, List.getElem?_range h]
  rfl
theorem occL_set {s x : Nat} {ds : List Nat} (h : x < s) : (occL s ds).set x (.int ((occ x ds : Nat) + 1)) = occL s (ds ++ [x]) := by
  refine List.ext_getElem? fun p => ?_
  by_cases hp : p < s
  · rw [occL_at hp, occ_snoc]
    by_cases c : x = p
    · subst c
      rw [List.getElem?_set_self (by rw [occL_len]; exact h), if_pos rfl]; rfl
    · rw [List.getElem?_set_ne c, occL_at hp, if_neg c]; rfl
  · rw [List.getElem?_eq_none (by rw [List.length_set, occL_len]; omega), List.getElem?_eq_none (by rw [occL_len]; omega)]
theorem occL_max {s k n : Nat} (hs : 0 < s) {m : Int} (h1 : m ∈ (List.range s).map fun p => ((occ p (digs s k n) : Nat) : Int)) (h2 : ∀ x ∈ (List.range s).map fun p => ((occ p (digs s k n) : Nat) : Int), x ≤ m) : m = (mx s k n : Nat) := by
  obtain ⟨p, hp, rfl⟩ := List.mem_map.mp h1
  have hp' := List.mem_range.mp hp
  obtain ⟨p2, hp2, e2⟩ := mxF_mem (f := fun p => occ p (digs s k n)) s hs
  have h3 := h2 _ (List.mem_map.mpr ⟨p2, List.mem_range.mpr hp2, rfl⟩)
  have h4 := mxF_ge (f := fun p => occ p (digs s k n)) s p hp'
  have e2' : occ p2 (digs s k n) = mx s k n := e2
  have h4' : occ p (digs s k n) ≤ mx s k n := h4
  rw [e2'] at h3
  omega
def brL (m N h : Nat) : List V := (List.range (N + 1)).map fun l => V.int (bI m h l)
theorem brL_at {m N h l : Nat} (hl : l ≤ N) : (brL m N h)[l]? = some (.int (bI m h l)) := by
  unfold brL
  rw [List.getElem?_map, List.getElem?_range (by omega)]; rfl
def subV (w : Int) : V → V
  | .int i => .int (w - i)
  | _ => .non
theorem subV_map (w : Int) (s k : Nat) : (longL s k).map (subV w) = ((List.range (k + 1)).map fun m => w - cI m k s).map V.int := by
  unfold longL
  rw [List.map_map, List.map_map]; rfl
theorem longL_mem {s k : Nat} {x : V} (h : x ∈ longL s k) : ∃ m, m ≤ k ∧ x = .int (cI m k s) := by
  obtain ⟨m, hm, rfl⟩ := List.mem_map.mp h
  exact ⟨m, by have := List.mem_range.mp hm; omega, rfl⟩
theorem pow_big {s k : Nat} (hs : s ≤ 21) (hk : k ≤ 24) : s ^ k < 2 ^ 950 := Nat.lt_of_le_of_lt (pow_small (by omega) (by omega)) (by decide)
theorem atI_last {xs : List V} {x : V} : atI (xs ++ [x]) (-1) = some x := by
  have e : ixN (xs ++ [x]).length (-1) = some xs.length := by
    unfold ixN
    rw [if_neg (by decide), List.length_append]
    simp only [List.length_cons, List.length_nil]
    rw [if_pos (by omega)]
    congr 1
    omega
  unfold atI
  rw [e]
  simp
def fitL (m h l : Nat) : List Nat := (List.range (min m l + 1)).filter fun j => decide (0 < bI m h (l - j))
def prodV (m h l : Nat) : V → V
  | .int j => .int (chs l j.toNat * bI m h (l - j.toNat))
  | _ => .non
theorem prodV_map (m h l : Nat) : ((fitL m h l).map fun (j : Nat) => V.int (j : Int)).map (prodV m h l) = ((fitL m h l).map fun j => chs l j * bI m h (l - j)).map V.int := by
  rw [List.map_map, List.map_map]; rfl
theorem bI_sum (m h l : Nat) : ((fitL m h l).map fun j => chs l j * bI m h (l - j)).sum = bI m (h + 1) l := rfl
theorem fitL_le {m h l j : Nat} (hj : j ∈ fitL m h l) : j ≤ m ∧ j ≤ l := by
  have := List.mem_range.mp (List.mem_filter.mp hj).1
  omega
theorem fitL_len (m h l : Nat) : (fitL m h l).length ≤ m + 1 := by
  have := List.length_filter_le (fun j => decide (0 < bI m h (l - j))) (List.range (min m l + 1))
  rw [List.length_range] at this
  unfold fitL
  omega
theorem seq_pairsT {t : TA} {g : TG} {u : TS} {D : Ends} {σ : L2.St} {H : Hp} {r : R2} {ti : TE} (ps : List (V × V)) (h : PR σ t ps) (hl : ps.length ≤ 1000) (k : ∀ vs l H', Same H H' → H' l = some (.lst vs) → Pairs ps vs H' → ti σ H' fun y H2 => r (.ref l) y H2 fun x H3 => g x σ H3 fun σ' H4 => u D σ' H4) : tSeq (tAsg (tOp r (tLst t) ti) g) u D σ H := by
  refine h.read H _ fun vs H' sm pv => ⟨by rw [pv.1]; exact small hl, fun l hl' => ?_⟩
  exact k vs l _ (sm.trans (Same.new hl' _)) upd_same (pv.same (Same.new hl' _))
def sizes7 : List (V × V) := [(.int 2, .int 8), (.int 3, .int 6), (.int 4, .int 5), (.int 5, .int 4), (.int 6, .int 4), (.int 2, .int 3), (.int 9, .int 3)]
theorem size7_of {i : Nat} (h : i < 7) : ∃ s mo : Nat, S51.combos[i]? = some (s, mo) ∧ sizes7[i]? = some (.int s, .int mo) := by
  match i, h with
  | 0, _ => exact ⟨2, 8, rfl, rfl⟩
  | 1, _ => exact ⟨3, 6, rfl, rfl⟩
  | 2, _ => exact ⟨4, 5, rfl, rfl⟩
  | 3, _ => exact ⟨5, 4, rfl, rfl⟩
  | 4, _ => exact ⟨6, 4, rfl, rfl⟩
  | 5, _ => exact ⟨2, 3, rfl, rfl⟩
  | 6, _ => exact ⟨9, 3, rfl, rfl⟩
theorem combo7 : S51.combos.all (fun p => decide (2 ≤ p.1) && decide (p.1 ≤ 21) && decide (p.2 ≤ 24) && decide (p.1 ^ p.2 ≤ 5000)) = true := by decide +kernel
theorem combo7_ok {i s mo k : Nat} (h : S51.combos[i]? = some (s, mo)) (hk : k ≤ mo) : 2 ≤ s ∧ s ≤ 21 ∧ k ≤ 24 ∧ s ^ k ≤ 5000 ∧ chkS s k = true := by
  have hm := List.mem_of_getElem? h
  have h1 := List.all_eq_true.mp combo7 _ hm
  simp only [Bool.and_eq_true, decide_eq_true_eq] at h1
  obtain ⟨⟨⟨a1, a2⟩, a3⟩, a4⟩ := h1
  have h2 := List.all_eq_true.mp (List.all_eq_true.mp chk_all _ hm) k (List.mem_range.mpr (by omega))
  exact ⟨a1, a2, by omega, Nat.le_trans (Nat.pow_le_pow_right (by omega) hk) a4, h2⟩
def odds6 : List (V × V) := [(.int 1, .int 2), (.int 65, .int 2), (.int 4, .int 65), (.int 4, .int (-1)), (.bl true, .int 2), (.int 4, .non)]
theorem odd6_of {i : Nat} (h : i < 6) : ∃ p, odds6[i]? = some p ∧ okLong p.1 p.2 = false ∧ (∀ H, ∃ T, Kn H p.1 T) ∧ (∀ H, ∃ T, Kn H p.2 T) := by
  match i, h with
  | 0, _ => exact ⟨_, rfl, by decide, fun H => ⟨_, .int _⟩, fun H => ⟨_, .int _⟩⟩
  | 1, _ => exact ⟨_, rfl, by decide, fun H => ⟨_, .int _⟩, fun H => ⟨_, .int _⟩⟩
  | 2, _ => exact ⟨_, rfl, by decide, fun H => ⟨_, .int _⟩, fun H => ⟨_, .int _⟩⟩
  | 3, _ => exact ⟨_, rfl, by decide, fun H => ⟨_, .int _⟩, fun H => ⟨_, .int _⟩⟩
  | 4, _ => exact ⟨_, rfl, by decide, fun H => ⟨_, .bl _⟩, fun H => ⟨_, .int _⟩⟩
  | 5, _ => exact ⟨_, rfl, by decide, fun H => ⟨_, .int _⟩, fun H => ⟨_, .non⟩⟩
theorem cut_take (xs : List V) (j : Nat) (h : j ≤ xs.length) : cutV xs none (some (j : Int)) = xs.take j := by
  unfold cutV
  have h1 : HT.sIx xs.length 0 none = 0 := by simp [HT.sIx]
  have h2 : HT.sIx xs.length xs.length (some (j : Int)) = j := by
    simp only [HT.sIx]
    rw [if_neg (by omega)]
    omega
  rw [h1, h2]
  rfl
theorem hgtL_take {s k n d : Nat} (hd : d ≤ k) : (hgtL s k n).take (d + 1) = ((List.range (d + 1)).map fun d => ((hc s k d n : Nat) : Int)).map V.int := by
  unfold hgtL
  rw [← List.map_take, List.take_range, List.map_map, Nat.min_eq_left (by omega)]
  rfl
theorem longL_flat (s k : Nat) : (longL s k).all flatV = true := by
  unfold longL
  rw [List.all_map]; exact List.all_eq_true.mpr fun _ _ => rfl
theorem eqVs_reflL : ∀ {xs : List V}, xs.all flatV = true → eqVs xs xs = true
  | [], _ => rfl
  | x :: xs, h => by
    rw [List.all_cons, Bool.and_eq_true] at h
    show (eqV x x && eqVs xs xs) = true
    rw [eqV_refl h.1, eqVs_reflL h.2]; rfl
theorem sorted_eqI : ∀ {l m : List Int}, l.Pairwise (· ≤ ·) → m.Pairwise (· ≤ ·) → l.Perm m → l = m
  | [], m, _, _, p => (List.nil_perm.mp p).symm
  | x :: l, [], _, _, p => absurd p.length_eq (by simp)
  | x :: l, y :: m, hl, hm, p => by
    rw [List.pairwise_cons] at hl hm
    have e : x = y := by
      have h1 := p.mem_iff.mp (List.mem_cons_self (a := x) (l := l))
      have h2 := p.mem_iff.mpr (List.mem_cons_self (a := y) (l := m))
      rcases List.mem_cons.mp h1 with h1 | h1
      · exact h1
      · rcases List.mem_cons.mp h2 with h2 | h2
        · exact h2.symm
        · have := hl.1 y h2
          have := hm.1 x h1
          omega
    subst e
    rw [sorted_eqI hl.2 hm.2 (List.Perm.cons_inv p)]
theorem long_sorted {s k : Nat} (hs : s ≤ 21) (hk : k ≤ 24) : ((List.range (k + 1)).map fun m => cI m k s).Pairwise (· ≤ ·) := by
  rw [List.pairwise_map]
  refine List.Pairwise.imp_of_mem (R := fun a b => a < b) (fun {a b} ha hb h => ?_) List.pairwise_lt_range
  exact cI_le hk hs (by omega) (by have := List.mem_range.mp hb; omega)
theorem long_last {s k : Nat} (hs : s ≤ 21) (hk : k ≤ 24) : atI (longL s k) (-1) = some (.int ((s ^ k : Nat) : Int)) := by
  unfold longL
  rw [List.range_succ, List.map_append, List.map_cons, List.map_nil, cI_top hk hs]
  exact atI_last
theorem hc_above {s k : Nat} (h : chkS s k = true) (hs : s ≤ 21) (hk : k ≤ 24) : ((sumN (fun d => d * hc s k d (s ^ k)) (k + 1) : Nat) : Int) = ((above s k : Nat) : Int) := by
  rw [above_eq hs hk, hc_abel h ((s ^ k : Nat) : Int) k (Nat.le_refl _)]
  show _ = sumI (fun n => ((s ^ k : Nat) : Int) - cI n k s) k + (((s ^ k : Nat) : Int) - cI k k s)
  rw [cI_top hk hs]
  omega
theorem cpwL {j : Int} (h0 : 0 ≤ j) (h1 : j ≤ 1000000) : CPow 2 j := ⟨h0, h1, by decide⟩
end SC
set_option Elab.async false
set_option linter.all false
set_option maxRecDepth 100000
set_option exponentiation.threshold 5000
namespace S51
open PySem L2 SC PyProof.Rows
def top (i : Nat) : Stmt := PySem.Challenge.pw_strewn_k51_whole_longest.main.body.getD i (.Pass ⟨0, 0, 0, 0⟩)
structure Tx (K : PySem.W.Frag) (mg : Str → Option Value) (cl : CN → Addr) : Prop where
  nisinstance : mg "isinstance" = none
  nbool : mg "bool" = none
  nint : mg "int" = none
  nlen : mg "len" = none
  ntuple : mg "tuple" = none
  nstr : mg "str" = none
  nall : mg "all" = none
  nany : mg "any" = none
  nsum : mg "sum" = none
  nmax : mg "max" = none
  nmin : mg "min" = none
  nrange : mg "range" = none
  nlist : mg "list" = none
  nsorted : mg "sorted" = none
  nenumerate : mg "enumerate" = none
  nzip : mg "zip" = none
  nabs : mg "abs" = none
  ndict : mg "dict" = none
  nValueError : mg "ValueError" = none
  cLEAST_SIZE : ∃ u, mg "LEAST_SIZE" = some u ∧ RelV (.int 2) u
  cMOST_SIZE : ∃ u, mg "MOST_SIZE" = some u ∧ RelV (.int 64) u
  cMOST_SCATTERED : ∃ u, mg "MOST_SCATTERED" = some u ∧ RelV (.int 64) u
  mStrewError : mg "StrewError" = some (.ref (cl .StrewError))
  xStrewError : ExcC K (cl .StrewError)
  mBadRule : mg "BadRule" = some (.ref (cl .BadRule))
  xBadRule : ExcC K (cl .BadRule)
  mBadKey : mg "BadKey" = some (.ref (cl .BadKey))
  xBadKey : ExcC K (cl .BadKey)
  mBadSize : mg "BadSize" = some (.ref (cl .BadSize))
  xBadSize : ExcC K (cl .BadSize)
  mFull : mg "Full" = some (.ref (cl .Full))
  xFull : ExcC K (cl .Full)
  mTooMany : mg "TooMany" = some (.ref (cl .TooMany))
  xTooMany : ExcC K (cl .TooMany)
  wd0 : Wd K cl (cl .BadRule) 0
  wd1 : Wd K cl (cl .BadKey) 1
  wd2 : Wd K cl (cl .BadSize) 2
  wd3 : Wd K cl (cl .Full) 3
  wd4 : Wd K cl (cl .TooMany) 4
end S51
set_option Elab.async false
set_option linter.all false
set_option maxRecDepth 100000
set_option exponentiation.threshold 5000
namespace S51
open PySem L2 SC PyProof.Rows S41 S40 S51
theorem sc_greatest_divisor : FnScope ["top", "under", "divisor", "rest", "smaller"] ["top", "under"] (defScope (top 1)) := ⟨rfl, rfl, rfl, by decide +kernel, rfl, by decide +kernel, by decide +kernel⟩
theorem v_greatest_divisor : Vs ["top", "under", "divisor", "rest", "smaller"] (defScope (top 1)) := Vs.of (by decide +kernel)
theorem l_greatest_divisor : Ls ["top", "under", "divisor", "rest", "smaller"] (defScope (top 1)) := Ls.of sc_greatest_divisor.nd (by decide +kernel)
theorem g_greatest_divisor : Gs [] (defScope (top 1)) := Gs.of (by decide +kernel)
theorem ok_greatest_divisor {P : Program} {w : World} {K : PySem.W.Frag} {mg : Str → Option Value} {base : Heap} {f : Addr} {fd : FuncData} {cl : CN → Addr} (F : Fun K "greatest_divisor" "greatest_divisor" (top 1) f fd) (T : Tx K mg cl) :
    FnOk P w K mg base (CX1 P w) true 1 f fd ["top", "under"] (spGcd) := by
  have S := sc_greatest_divisor
  have Vv := v_greatest_divisor
  have Lo := l_greatest_divisor
  have Gg := g_greatest_divisor
  refine F.ok S (fun vs H Q E h => ?_) (fun cdv A outer s H vs Q E hx hcx hh hr D h => ?_)
  · obtain ⟨t, u, rfl, _⟩ := h; rfl
  obtain ⟨t, u, rfl, u0, q⟩ := h
  have hp := passesXE (E := E) D
  refine ⟨_, (pss_cons (set_v (i := 2) Lo (vn Vv 1))
    (pss_cons (set_v (i := 3) Lo (pe_op op_mod (vn Vv 0) (vn Vv 1)))
    (pss_cons (ps_while hp (pt_cmpR op_ne (vn Vv 3) pe_int (nomark _)) (pss_cons (set_v (i := 4) Lo (pe_op op_mod (vn Vv 2) (vn Vv 3)))
    (pss_cons (set_v (i := 2) Lo (vn Vv 3))
    (pss_one (set_v (i := 3) Lo (vn Vv 4))))))
    (pss_one (ps_ret (vn Vv 2)))))), ?_⟩
  refine ⟨_, rfl, _, rfl, _, rfl, _, _, rfl, rfl, posJ (by omega), ?_⟩
  refine ⟨fun m σ H2 => ∃ (a b : Nat) (x : Option V), σ = [some (.int t), some (.int u), some (.int a), some (.int b), x] ∧ H2 = H ∧ Nat.gcd a b = Nat.gcd t u ∧ m = b, ⟨t % u, u, t % u, none, rfl, rfl, ?_, rfl⟩, ?_⟩
  · rw [Nat.gcd_comm u, ← Nat.gcd_rec, Nat.gcd_comm]
  rintro m σ H2 ⟨a, b, x, rfl, rfl, e3, e4⟩
  refine ⟨_, rfl, rfl, _, rfl, ite2 (fun c => ?_) fun c => ?_⟩
  · have hb : b ≠ 0 := fun z => by subst z; exact absurd c (by decide)
    refine ⟨_, fun _ _ h => h, ?_⟩
    refine ⟨_, rfl, _, rfl, _, _, rfl, rfl, posJ (by omega), _, rfl, _, rfl, ?_⟩
    refine ⟨a % b, by rw [e4]; exact Nat.mod_lt _ (by omega), b, a % b, _, rfl, rfl, ?_, rfl⟩
    rw [← e3, Nat.gcd_comm b, ← Nat.gcd_rec, Nat.gcd_comm]
  · have hb : b = 0 := by
      by_cases z : b = 0
      · exact z
      · exact absurd (by rw [decide_eq_false (fun w => z (by have := V.int.inj w; omega))]; rfl) c
    subst hb
    rw [Nat.gcd_zero_right] at e3
    subst e3
    exact ⟨_, rfl, q⟩
end S51
set_option Elab.async false
set_option linter.all false
set_option maxRecDepth 100000
set_option exponentiation.threshold 5000
namespace S51
open PySem L2 SC PyProof.Rows S41 S40 S51
theorem sc_fraction : FnScope ["top", "under", "divisor"] ["top", "under"] (defScope (top 2)) := ⟨rfl, rfl, rfl, by decide +kernel, rfl, by decide +kernel, by decide +kernel⟩
theorem v_fraction : Vs ["top", "under", "divisor"] (defScope (top 2)) := Vs.of (by decide +kernel)
theorem l_fraction : Ls ["top", "under", "divisor"] (defScope (top 2)) := Ls.of sc_fraction.nd (by decide +kernel)
theorem g_fraction : Gs ["greatest_divisor"] (defScope (top 2)) := Gs.of (by decide +kernel)
theorem ok_fraction {P : Program} {w : World} {K : PySem.W.Frag} {mg : Str → Option Value} {base : Heap} {f : Addr} {fd : FuncData} {cl : CN → Addr} (F : Fun K "fraction" "fraction" (top 2) f fd) (T : Tx K mg cl) (O_greatest_divisor : Own P w K mg base true 1 "greatest_divisor" ["top", "under"] (spGcd)) :
    FnOk P w K mg base (CX1 P w) true 2 f fd ["top", "under"] (spFrac) := by
  have S := sc_fraction
  have Vv := v_fraction
  have Lo := l_fraction
  have Gg := g_fraction
  refine F.ok S (fun vs H Q E h => ?_) (fun cdv A outer s H vs Q E hx hcx hh hr D h => ?_)
  · obtain ⟨t, u, rfl, _⟩ := h; rfl
  obtain ⟨t, u, rfl, u0, u1, q⟩ := h
  refine ⟨_, (pss_cons (set_v (i := 2) Lo (cOwn (i := 0) Gg O_greatest_divisor (hr.mono (by decide)) passX (pa_cons (vn Vv 0) (pa_cons (vn Vv 1) pa_nil))))
    (pss_one (ps_ret (pe_tup (pa_cons (pe_op op_fdivA (vn Vv 0) (vn Vv 2)) (pa_cons (pe_op op_fdivA (vn Vv 1) (vn Vv 2)) pa_nil)))))), ?_⟩
  have g0 := gcd_pos (t := t) u0
  have g1 := gcd_le (t := t) u0
  have dv : ∀ i : Int, CDivA i (Nat.gcd t u : Nat) := fun i => divN g0 (Nat.lt_of_le_of_lt g1 u1)
  refine ⟨_, rfl, _, rfl, t, u, rfl, u0, _, rfl, _, rfl, _, _, rfl, rfl, dv _, _, rfl, _, rfl, _, _, rfl, rfl, dv _, (show 2 ≤ sizeLine by decide), fun p hp => q _ _ (Same.new hp _) ⟨p, rfl, upd_same⟩⟩
end S51
set_option Elab.async false
set_option linter.all false
set_option maxRecDepth 100000
set_option exponentiation.threshold 5000
namespace S51
open PySem L2 SC PyProof.Rows S41 S40 S51
theorem sc_power : FnScope ["base", "exponent", "told", "step"] ["base", "exponent"] (defScope (top 11)) := ⟨rfl, rfl, rfl, by decide +kernel, rfl, by decide +kernel, by decide +kernel⟩
theorem v_power : Vs ["base", "exponent", "told", "step"] (defScope (top 11)) := Vs.of (by decide +kernel)
theorem l_power : Ls ["base", "exponent", "told", "step"] (defScope (top 11)) := Ls.of sc_power.nd (by decide +kernel)
theorem g_power : Gs ["range"] (defScope (top 11)) := Gs.of (by decide +kernel)
theorem ok_power {P : Program} {w : World} {K : PySem.W.Frag} {mg : Str → Option Value} {base : Heap} {f : Addr} {fd : FuncData} {cl : CN → Addr} (F : Fun K "power" "power" (top 11) f fd) (T : Tx K mg cl) :
    FnOk P w K mg base (CX1 P w) true 1 f fd ["base", "exponent"] (spPow) := by
  have S := sc_power
  have Vv := v_power
  have Lo := l_power
  have Gg := g_power
  refine F.ok S (fun vs H Q E h => ?_) (fun cdv A outer s H vs Q E hx hcx hh hr D h => ?_)
  · obtain ⟨b, e, rfl, _⟩ := h; rfl
  obtain ⟨b, e, rfl, ⟨b0, b1⟩, ⟨e0, e1⟩, q⟩ := h
  have hp := passesXE (E := E) D
  refine ⟨_, (pss_cons (set_v (i := 2) Lo pe_int)
    (pss_cons (ps_for hp (iR1 (i := 0) Gg T.nrange (pa_cons (vn Vv 1) pa_nil)) (tgt_v (i := 3) Lo)
    (pss_one (set_v (i := 2) Lo (pe_op op_mulA (vn Vv 2) (vn Vv 0)))))
    (pss_one (ps_ret (vn Vv 2))))), ?_⟩
  refine ⟨_, rfl, e, rfl, by omega, by omega, for_range (n := e.toNat) (fun i σ H2 => ∃ v, σ = [some (.int b), some (.int e), some (.int (b ^ i)), v] ∧ H2 = H) ⟨none, by rw [Int.pow_zero]; rfl, rfl⟩ (fun i σ H2 hi ⟨v, z1, z2⟩ => ?_) (fun σ H2 ⟨v, z1, z2⟩ => ?_)⟩
  · subst z1 z2
    refine ⟨_, rfl, _, rfl, _, _, rfl, rfl, mulC b0 b1, some (.int (0 + i)), ?_, rfl⟩
    rw [Int.pow_succ]
    rfl
  · subst z1 z2
    exact ⟨_, rfl, q⟩
end S51
set_option Elab.async false
set_option linter.all false
set_option maxRecDepth 100000
set_option exponentiation.threshold 5000
namespace S51
open PySem L2 SC PyProof.Rows S41 S40 S51
theorem sc_is_whole : FnScope ["thing", "least", "most"] ["thing", "least", "most"] (defScope (top 15)) := ⟨rfl, rfl, rfl, by decide +kernel, rfl, by decide +kernel, by decide +kernel⟩
theorem v_is_whole : Vs ["thing", "least", "most"] (defScope (top 15)) := Vs.of (by decide +kernel)
theorem l_is_whole : Ls ["thing", "least", "most"] (defScope (top 15)) := Ls.of sc_is_whole.nd (by decide +kernel)
theorem g_is_whole : Gs ["isinstance", "bool", "int"] (defScope (top 15)) := Gs.of (by decide +kernel)
theorem ok_is_whole {P : Program} {w : World} {K : PySem.W.Frag} {mg : Str → Option Value} {base : Heap} {f : Addr} {fd : FuncData} {cl : CN → Addr} (F : Fun K "is_whole" "is_whole" (top 15) f fd) (T : Tx K mg cl) :
    FnOk P w K mg base (CX1 P w) true 1 f fd ["thing", "least", "most"] (spWhole) := by
  have S := sc_is_whole
  have Vv := v_is_whole
  have Lo := l_is_whole
  have Gg := g_is_whole
  refine F.ok S (fun vs H Q E h => ?_) (fun cdv A outer s H vs Q E hx hcx hh hr D h => ?_)
  · obtain ⟨x, lo, hi, T, rfl, _⟩ := h; rfl
  obtain ⟨x, lo, hi, ty, rfl, hk, q⟩ := h
  refine ⟨_, (pss_cons (ps_if (PW.pt (pw_or (pt_val (cB (i := 0) Gg (call_isi) T.nisinstance bt_isinstance (pa_cons (vn Vv 0) (pa_cons (nTy (i := 1) Gg T.nbool bt_bool) pa_nil)))) (pw_or1 (pt_not (pt_val (cB (i := 0) Gg (call_isi) T.nisinstance bt_isinstance (pa_cons (vn Vv 0) (pa_cons (nTy (i := 2) Gg T.nint bt_int) pa_nil)))))))) (pss_one (ps_ret pe_bl)) pss_nil)
    (pss_one (ps_ret (pe_chain op_le op_le (vn Vv 1) (vn Vv 0) (vn Vv 2))))), ?_⟩
  refine ⟨_, rfl, _, _, _, _, rfl, hk.ty, kit_bool ty, _, rfl, ?_⟩
  cases hk with
  | bl b => exact iteT (iteT q)
  | int i =>
    refine iteF ⟨_, rfl, _, _, _, _, rfl, (Kn.int i).ty, kit_int .int, _, rfl, iteF ?_⟩
    refine ⟨_, rfl, _, rfl, _, _, rfl, rfl, _, rfl, ite2 (fun c => ⟨_, rfl, _, _, rfl, rfl, ?_⟩) fun c => ?_⟩
    · have q' : Q (.bl (decide (lo ≤ i) && decide (i ≤ hi))) H := q
      rw [c, Bool.true_and] at q'
      exact q'
    · have q' : Q (.bl (decide (lo ≤ i) && decide (i ≤ hi))) H := q
      rw [Bool.eq_false_iff.mpr c, Bool.false_and] at q'
      exact q'
  | non => exact iteF ⟨_, rfl, _, _, _, _, rfl, Kn.non.ty, kit_int .non, _, rfl, iteT q⟩
  | str z => exact iteF ⟨_, rfl, _, _, _, _, rfl, (Kn.str z).ty, kit_int .str, _, rfl, iteT q⟩
  | lst e => exact iteF ⟨_, rfl, _, _, _, _, rfl, (Kn.lst e).ty, kit_int .lst, _, rfl, iteT q⟩
  | tup e => exact iteF ⟨_, rfl, _, _, _, _, rfl, (Kn.tup e).ty, kit_int .tup, _, rfl, iteT q⟩
end S51
set_option Elab.async false
set_option linter.all false
set_option maxRecDepth 100000
set_option exponentiation.threshold 5000
namespace S51
open PySem L2 SC PyProof.Rows S41 S40 S51
theorem sc_check_size : FnScope ["size"] ["size"] (defScope (top 16)) := ⟨rfl, rfl, rfl, by decide +kernel, rfl, by decide +kernel, by decide +kernel⟩
theorem v_check_size : Vs ["size"] (defScope (top 16)) := Vs.of (by decide +kernel)
theorem l_check_size : Ls ["size"] (defScope (top 16)) := Ls.of sc_check_size.nd (by decide +kernel)
theorem g_check_size : Gs ["is_whole", "LEAST_SIZE", "MOST_SIZE", "BadSize"] (defScope (top 16)) := Gs.of (by decide +kernel)
theorem ok_check_size {P : Program} {w : World} {K : PySem.W.Frag} {mg : Str → Option Value} {base : Heap} {f : Addr} {fd : FuncData} {cl : CN → Addr} (F : Fun K "check_size" "check_size" (top 16) f fd) (T : Tx K mg cl) (O_is_whole : Own P w K mg base true 1 "is_whole" ["thing", "least", "most"] (spWhole)) :
    FnOk P w K mg base (CX1 P w) true 2 f fd ["size"] (spCheckSize (cl .BadSize)) := by
  have S := sc_check_size
  have Vv := v_check_size
  have Lo := l_check_size
  have Gg := g_check_size
  refine F.ok S (fun vs H Q E h => ?_) (fun cdv A outer s H vs Q E hx hcx hh hr D h => ?_)
  · obtain ⟨p, _, rfl, _⟩ := h; rfl
  obtain ⟨v, Tv, rfl, kv, q⟩ := h
  refine ⟨_, (pss_one (ps_if (pt_not (pt_val (cOwn (i := 0) Gg O_is_whole (hr.mono (by decide)) passX (pa_cons (vn Vv 0) (pa_cons (nCon (i := 1) Gg T.cLEAST_SIZE) (pa_cons (nCon (i := 2) Gg T.cMOST_SIZE) pa_nil)))))) (pss_one (rse (i := 3) Gg T.mBadSize T.xBadSize (pa_cons pe_str pa_nil))) pss_nil)), ?_⟩
  refine ⟨_, rfl, v, 2, 64, Tv, rfl, kv, _, rfl, ?_⟩
  cases e : wholeV v 2 64 with
  | true =>
    rw [e, if_pos rfl] at q
    exact iteF q
  | false =>
    rw [e, if_neg Bool.false_ne_true] at q
    exact iteT ⟨by decide, q⟩
end S51
set_option Elab.async false
set_option linter.all false
set_option maxRecDepth 100000
set_option exponentiation.threshold 5000
namespace S51
open PySem L2 SC PyProof.Rows S41 S40 S51
theorem sc_check_count : FnScope ["count", "least", "most"] ["count", "least", "most"] (defScope (top 17)) := ⟨rfl, rfl, rfl, by decide +kernel, rfl, by decide +kernel, by decide +kernel⟩
theorem v_check_count : Vs ["count", "least", "most"] (defScope (top 17)) := Vs.of (by decide +kernel)
theorem l_check_count : Ls ["count", "least", "most"] (defScope (top 17)) := Ls.of sc_check_count.nd (by decide +kernel)
theorem g_check_count : Gs ["is_whole", "BadSize"] (defScope (top 17)) := Gs.of (by decide +kernel)
theorem ok_check_count {P : Program} {w : World} {K : PySem.W.Frag} {mg : Str → Option Value} {base : Heap} {f : Addr} {fd : FuncData} {cl : CN → Addr} (F : Fun K "check_count" "check_count" (top 17) f fd) (T : Tx K mg cl) (O_is_whole : Own P w K mg base true 1 "is_whole" ["thing", "least", "most"] (spWhole)) :
    FnOk P w K mg base (CX1 P w) true 2 f fd ["count", "least", "most"] (spCheckCount (cl .BadSize)) := by
  have S := sc_check_count
  have Vv := v_check_count
  have Lo := l_check_count
  have Gg := g_check_count
  refine F.ok S (fun vs H Q E h => ?_) (fun cdv A outer s H vs Q E hx hcx hh hr D h => ?_)
  · obtain ⟨v, l, m, T, rfl, _⟩ := h; rfl
  obtain ⟨v, l, m, Tv, rfl, kv, q⟩ := h
  refine ⟨_, (pss_one (ps_if (pt_not (pt_val (cOwn (i := 0) Gg O_is_whole (hr.mono (by decide)) passX (pa_cons (vn Vv 0) (pa_cons (vn Vv 1) (pa_cons (vn Vv 2) pa_nil)))))) (pss_one (rse (i := 1) Gg T.mBadSize T.xBadSize (pa_cons pe_str pa_nil))) pss_nil)), ?_⟩
  refine ⟨_, rfl, _, rfl, _, rfl, v, l, m, Tv, rfl, kv, _, rfl, ?_⟩
  cases e : wholeV v l m with
  | true =>
    rw [e, if_pos rfl] at q
    exact iteF q
  | false =>
    rw [e, if_neg Bool.false_ne_true] at q
    exact iteT ⟨by decide, q⟩
end S51
set_option Elab.async false
set_option linter.all false
set_option maxRecDepth 100000
set_option exponentiation.threshold 5000
namespace S51
open PySem L2 SC PyProof.Rows S41 S40 S51
theorem sc_choices : FnScope ["many", "few", "told", "step"] ["many", "few"] (defScope (top 20)) := ⟨rfl, rfl, rfl, by decide +kernel, rfl, by decide +kernel, by decide +kernel⟩
theorem v_choices : Vs ["many", "few", "told", "step"] (defScope (top 20)) := Vs.of (by decide +kernel)
theorem l_choices : Ls ["many", "few", "told", "step"] (defScope (top 20)) := Ls.of sc_choices.nd (by decide +kernel)
theorem g_choices : Gs ["range"] (defScope (top 20)) := Gs.of (by decide +kernel)
theorem ok_choices {P : Program} {w : World} {K : PySem.W.Frag} {mg : Str → Option Value} {base : Heap} {f : Addr} {fd : FuncData} {cl : CN → Addr} (F : Fun K "choices" "choices" (top 20) f fd) (T : Tx K mg cl) :
    FnOk P w K mg base (CX1 P w) true 1 f fd ["many", "few"] (spChoices) := by
  have S := sc_choices
  have Vv := v_choices
  have Lo := l_choices
  have Gg := g_choices
  refine F.ok S (fun vs H Q E h => ?_) (fun cdv A outer s H vs Q E hx hcx hh hr D h => ?_)
  · obtain ⟨n, k, rfl, _⟩ := h; rfl
  obtain ⟨n, k, rfl, n1, k1, q⟩ := h
  have hp := passesXE (E := E) D
  refine ⟨_, (pss_cons (set_v (i := 2) Lo pe_int)
    (pss_cons (ps_for hp (iR1 (i := 0) Gg T.nrange (pa_cons (vn Vv 1) pa_nil)) (tgt_v (i := 3) Lo)
    (pss_one (set_v (i := 2) Lo (pe_op op_fdivA (pe_op op_mulA (vn Vv 2) (pe_op op_sub (vn Vv 0) (vn Vv 3))) (pe_op op_add (vn Vv 3) pe_int)))))
    (pss_one (ps_ret (vn Vv 2))))), ?_⟩
  refine ⟨_, rfl, k, rfl, by omega, by omega, ?_⟩
  rw [Int.toNat_natCast]
  refine for_range (n := k) (fun i σ H2 => ∃ x, σ = [some (.int n), some (.int k), some (.int (chs n i)), x] ∧ H2 = H) ⟨none, rfl, rfl⟩ ?_ ?_
  · rintro i σ H2 hi ⟨x, rfl, rfl⟩
    refine ⟨_, rfl, _, rfl, _, rfl, _, _, rfl, rfl, _, _, rfl, rfl, mulS (by omega) (by omega), _, rfl, _, _, rfl, rfl, _, _, rfl, rfl, divC (by omega) (by omega), ?_⟩
    have e0 : chs n (i + 1) = chs n i * ((n : Int) - (0 + (i : Int))) / (0 + (i : Int) + 1) := by rw [Int.zero_add]; rfl
    exact ⟨_, by rw [e0]; rfl, rfl⟩
  · rintro σ H2 ⟨x, rfl, rfl⟩
    exact ⟨_, rfl, q⟩
end S51
set_option Elab.async false
set_option linter.all false
set_option maxRecDepth 100000
set_option exponentiation.threshold 5000
namespace S51
open PySem L2 SC PyProof.Rows S41 S40 S51
theorem sc_counts_of_one_more : FnScope ["counts", "most", "keys", "chosen", "told", "homes", "allowed"] ["counts", "most"] (defScope (top 21)) := ⟨rfl, rfl, rfl, by decide +kernel, rfl, by decide +kernel, by decide +kernel⟩
theorem v_counts_of_one_more : Vs ["counts", "most", "keys", "chosen", "told", "homes", "allowed"] (defScope (top 21)) := Vs.of (by decide +kernel)
theorem l_counts_of_one_more : Ls ["counts", "most", "keys", "chosen", "told", "homes", "allowed"] (defScope (top 21)) := Ls.of sc_counts_of_one_more.nd (by decide +kernel)
theorem g_counts_of_one_more : Gs ["len", "choices", "range"] (defScope (top 21)) := Gs.of (by decide +kernel)
theorem ok_counts_of_one_more {P : Program} {w : World} {K : PySem.W.Frag} {mg : Str → Option Value} {base : Heap} {f : Addr} {fd : FuncData} {cl : CN → Addr} (F : Fun K "counts_of_one_more" "counts_of_one_more" (top 21) f fd) (T : Tx K mg cl) (O_choices : Own P w K mg base true 1 "choices" ["many", "few"] (spChoices)) :
    FnOk P w K mg base (CX1 P w) true 2 f fd ["counts", "most"] (spOneMore) := by
  have S := sc_counts_of_one_more
  have Vv := v_counts_of_one_more
  have Lo := l_counts_of_one_more
  have Gg := g_counts_of_one_more
  refine F.ok S (fun vs H Q E h => ?_) (fun cdv A outer s H vs Q E hx hcx hh hr D h => ?_)
  · obtain ⟨C, rs, m, S, K, rfl, _⟩ := h; rfl
  obtain ⟨C, rs, m, S, K0, rfl, ra, s1, k1, m1, q⟩ := h
  have hp := passesXE (E := E) D
  refine ⟨_, (pss_cons (set_v (i := 2) Lo (pe_op op_sub (cB (i := 0) Gg (call_len_seq) T.nlen bt_len (pa_cons (vn Vv 0) pa_nil)) pe_int))
    (pss_cons (set_v (i := 3) Lo (cOwn (i := 1) Gg O_choices (hr.mono (by decide)) passX (pa_cons (vn Vv 2) (pa_cons (vn Vv 1) pa_nil))))
    (pss_cons (set_v (i := 4) Lo (pe_lst (pa_cons pe_int pa_nil)))
    (pss_cons (ps_for hp (iR2 (i := 2) Gg T.nrange (pa_cons pe_int (pa_cons (cB (i := 0) Gg (call_len_seq) T.nlen bt_len (pa_cons (pe_ix ix_list (vn Vv 0) (vn Vv 2) (fun _ _ => rfl)) pa_nil)) pa_nil))) (tgt_v (i := 5) Lo)
    (pss_cons (set_v (i := 6) Lo (pe_ix ix_list (pe_ix ix_list (vn Vv 0) (vn Vv 2) (fun _ _ => rfl)) (vn Vv 5) (fun _ _ => rfl)))
    (pss_cons (ps_if (pt_cmpR op_ge (vn Vv 2) (vn Vv 1) (nomark _)) (pss_one (set_v (i := 6) Lo (pe_op op_sub (vn Vv 6) (pe_op op_mulA (vn Vv 3) (pe_ix ix_list (pe_ix ix_list (vn Vv 0) (pe_op op_sub (vn Vv 2) (vn Vv 1)) (fun _ _ => rfl)) (pe_op op_sub (vn Vv 5) pe_int) (fun _ _ => rfl)))))) pss_nil)
    (pss_one (ps_expr (pe_bm PySem.F.plainAttrs_list PySem.F.slot_list_append PySem.F.type_list_append mt_append (vn Vv 4) (pa_cons (pe_op op_mulA (vn Vv 5) (vn Vv 6)) pa_nil)))))))
    (pss_one (ps_ret (vn Vv 4))))))), ?_⟩
  have hz : 100000 < sizeLine := by decide
  have e1 : (((rs.map V.ref).length : Nat) : Int) - 1 = K0 := by rw [List.length_map, ra.len]; omega
  have hK : K0 < rs.length := by rw [ra.len]; omega
  have eK : rs[K0]? = some rs[K0] := List.getElem?_eq_getElem hK
  have hKa := ra.at_ _ _ eK
  generalize rs[K0] = aK at eK hKa
  have atK : atI (rs.map V.ref) (K0 : Int) = some (.ref aK) := atI_nat (by rw [List.getElem?_map, eK]; rfl)
  refine seq_cut (fun σ' H' => σ' = [some (.ref C), some (.int m), some (.int K0), none, none, none, none] ∧ H' = H) (fun U hU => ⟨_, rfl, C, _, rfl, .inl (SqL.of ra.top), _, _, rfl, rfl, hU _ _ ⟨by rw [← e1]; rfl, rfl⟩⟩) ?_
  rintro σ' H' ⟨rfl, rfl⟩
  refine ⟨_, rfl, _, rfl, K0, m, rfl, by omega, by omega, ?_⟩
  refine ⟨small (n := 1) (by decide), fun T hT => ?_⟩
  have sT := Same.new hT (.lst [.int 0])
  refine ⟨_, rfl, _, rfl, C, _, _, .ref aK, rfl, rfl, SqL.of (sT _ _ ra.top), atK, aK, _, rfl, .inl (SqL.of (sT _ _ hKa)), 1, ((crow m S K0).length : Int), rfl, ⟨by omega, by omega, by rw [crow_len]; omega, by rw [crow_len]; omega⟩, ?_⟩
  rw [show ((((crow m S K0).length : Nat) : Int) - 1).toNat = S by rw [crow_len]; omega]
  refine for_range (n := S) (fun j σ' H2 => ∃ x5 x6, σ' = [some (.ref C), some (.int m), some (.int K0), some (.int (chs K0 m)), some (.ref T), x5, x6] ∧ Same H' H2 ∧ H2 T = some (.lst ((List.range (j + 1)).map fun h => V.int (cI m (K0 + 1) h)))) ⟨none, none, rfl, sT, upd_same⟩ ?_ ?_
  · rintro j σ' H2 hj ⟨x5, x6, rfl, sm, h2⟩
    have ei : (1 + (j : Int)) = ((j + 1 : Nat) : Int) := by omega
    refine ⟨_, rfl, _, rfl, C, _, _, .ref aK, rfl, rfl, SqL.of (sm _ _ ra.top), atK, _, rfl, aK, _, _, .int (cI m K0 (j + 1)), rfl, rfl, SqL.of (sm _ _ hKa), by rw [ei]; exact atI_nat (crow_at (by omega)), ?_⟩
    show tSeq Ends.nx _ _ _ _
    refine seq_nx ?_
    refine seq_cut (fun σ' H3 => σ' = [some (.ref C), some (.int m), some (.int K0), some (.int (chs K0 m)), some (.ref T), some (.int (1 + (j : Int))), some (.int (cI m K0 (j + 1) - if m ≤ K0 then chs K0 m * cI m (K0 - m) j else 0))] ∧ H3 = H2) (fun U hU => ?_) ?_
    · refine ⟨_, rfl, _, rfl, _, _, rfl, rfl, _, rfl, ite2 (fun c => ?_) fun c => ?_⟩
      · have cm : m ≤ K0 := by have := of_decide_eq_true c; omega
        have hM : K0 - m < rs.length := by omega
        have eM : rs[K0 - m]? = some rs[K0 - m] := List.getElem?_eq_getElem hM
        have hMa := ra.at_ _ _ eM
        generalize rs[K0 - m] = aM at eM hMa
        have atM : atI (rs.map V.ref) ((K0 : Int) - (m : Int)) = some (.ref aM) := by
          rw [show (K0 : Int) - (m : Int) = ((K0 - m : Nat) : Int) by omega]
          exact atI_nat (by rw [List.getElem?_map, eM]; rfl)
        refine ⟨_, rfl, _, rfl, _, rfl, _, rfl, _, rfl, _, _, rfl, rfl, C, _, _, .ref aM, rfl, rfl, SqL.of (sm _ _ ra.top), atM, _, rfl, _, _, rfl, rfl, aM, _, _, .int (cI m (K0 - m) j), rfl, rfl, SqL.of (sm _ _ hMa), ?_, _, _, rfl, rfl, mulT (chs_small (by omega) (by omega)).1 (chs_small (by omega) (by omega)).2, _, _, rfl, rfl, hU _ _ ⟨by rw [if_pos cm]; rfl, rfl⟩⟩
        rw [show (1 + (j : Int)) - 1 = ((j : Nat) : Int) by omega]
        exact atI_nat (crow_at (by omega))
      · have cm : ¬ m ≤ K0 := fun w => c (decide_eq_true (by omega))
        exact hU _ _ ⟨by rw [if_neg cm, Int.sub_zero]; rfl, rfl⟩
    rintro σ' H3 ⟨rfl, rfl⟩
    refine ⟨_, rfl, .inl ⟨rfl, _, SqL.of h2⟩, _, rfl, _, rfl, _, _, rfl, rfl, mulT (by omega) (by omega), T, _, _, rfl, rfl, h2, by rw [List.length_map, List.length_range]; omega, ?_⟩
    refine ⟨_, _, rfl, sm.upd hT h2 _, ?_⟩
    rw [upd_same, List.range_succ (n := j + 1), List.map_append, List.map_cons, List.map_nil, cI_ss, Int.add_comm (j : Int) 1]
  · rintro σ' H2 ⟨x5, x6, rfl, sm, h2⟩
    exact ⟨_, rfl, q T H2 sm hT h2⟩
end S51
set_option Elab.async false
set_option linter.all false
set_option maxRecDepth 100000
set_option exponentiation.threshold 5000
namespace S51
open PySem L2 SC PyProof.Rows S41 S40 S51
theorem sc_scatterings_up_to : FnScope ["size", "many", "most", "counts", "step"] ["size", "many", "most"] (defScope (top 22)) := ⟨rfl, rfl, rfl, by decide +kernel, rfl, by decide +kernel, by decide +kernel⟩
theorem v_scatterings_up_to : Vs ["size", "many", "most", "counts", "step"] (defScope (top 22)) := Vs.of (by decide +kernel)
theorem l_scatterings_up_to : Ls ["size", "many", "most", "counts", "step"] (defScope (top 22)) := Ls.of sc_scatterings_up_to.nd (by decide +kernel)
theorem g_scatterings_up_to : Gs ["range", "counts_of_one_more"] (defScope (top 22)) := Gs.of (by decide +kernel)
theorem ok_scatterings_up_to {P : Program} {w : World} {K : PySem.W.Frag} {mg : Str → Option Value} {base : Heap} {f : Addr} {fd : FuncData} {cl : CN → Addr} (F : Fun K "scatterings_up_to" "scatterings_up_to" (top 22) f fd) (T : Tx K mg cl) (O_counts_of_one_more : Own P w K mg base true 2 "counts_of_one_more" ["counts", "most"] (spOneMore)) :
    FnOk P w K mg base (CX1 P w) true 3 f fd ["size", "many", "most"] (spScat) := by
  have S := sc_scatterings_up_to
  have Vv := v_scatterings_up_to
  have Lo := l_scatterings_up_to
  have Gg := g_scatterings_up_to
  refine F.ok S (fun vs H Q E h => ?_) (fun cdv A outer s H vs Q E hx hcx hh hr D h => ?_)
  · obtain ⟨S, N, m, rfl, _⟩ := h; rfl
  obtain ⟨S, N, m, rfl, s1, n1, m1, q⟩ := h
  have hp := passesXE (E := E) D
  refine ⟨_, (pss_cons (set_v (i := 3) Lo (pe_lst (pa_cons (pe_op op_rep (pe_lst (pa_cons pe_int pa_nil)) (pe_op op_add (vn Vv 0) pe_int)) pa_nil)))
    (pss_cons (ps_for hp (iR1 (i := 0) Gg T.nrange (pa_cons (vn Vv 1) pa_nil)) (tgt_v (i := 4) Lo)
    (pss_one (ps_expr (pe_bm PySem.F.plainAttrs_list PySem.F.slot_list_append PySem.F.type_list_append mt_append (vn Vv 3) (pa_cons (cOwn (i := 1) Gg O_counts_of_one_more (hr.mono (by decide)) passX (pa_cons (vn Vv 3) (pa_cons (vn Vv 2) pa_nil))) pa_nil)))))
    (pss_one (ps_ret (pe_ix ix_list (pe_ix ix_list (vn Vv 3) (vn Vv 1) (fun _ _ => rfl)) (vn Vv 0) (fun _ _ => rfl)))))), ?_⟩
  have hz : 100000 < sizeLine := by decide
  refine seq_cut (fun σ' H' => ∃ C l1, σ' = [some (.int S), some (.int N), some (.int m), some (.ref C), none] ∧ Same H H' ∧ H C = none ∧ RowsAt H' C [l1] m S 0) (fun U hU => ?_) ?_
  · refine ⟨small (n := 1) (by decide), fun l0 hl0 => ⟨_, rfl, _, _, rfl, rfl, l0, (S : Int) + 1, _, rfl, rfl, upd_same, by omega, by omega, ?_, fun l1 hl1 => ?_⟩⟩
    · simp only [List.length_cons, List.length_nil]; omega
    rw [show ((S : Int) + 1).toNat = S + 1 by omega, rep_crow m]
    have s0 := (Same.new hl0 (.lst [.int 1])).trans (Same.new hl1 (.lst (crow m S 0)))
    refine ⟨small (n := 1) (by decide), fun C hC => hU _ _ ⟨C, l1, rfl, s0.trans (Same.new hC _), s0.free hC, upd_same, rfl, fun a ha w => ?_, fun j a ha => ?_⟩⟩
    · rw [List.mem_singleton.mp ha] at w
      rw [← w, upd_same] at hC; cases hC
    · cases j with
      | zero =>
        cases ha
        have hne : l1 ≠ C := fun w => by rw [← w, upd_same] at hC; cases hC
        rw [upd_ne hne, upd_same]
      | succ j => simp at ha
  rintro σ' H1 ⟨C, l1, rfl, s0, hC, r0⟩
  refine ⟨_, rfl, N, rfl, by omega, by omega, ?_⟩
  rw [Int.toNat_natCast]
  refine for_range (n := N) (fun j σ' H2 => ∃ x4 rs, σ' = [some (.int S), some (.int N), some (.int m), some (.ref C), x4] ∧ Same H H2 ∧ RowsAt H2 C rs m S j) ⟨none, [l1], rfl, s0, r0⟩ ?_ ?_
  · rintro j σ' H2 hj ⟨x4, rs, rfl, sm, ra⟩
    refine ⟨_, rfl, .inl ⟨rfl, _, SqL.of ra.top⟩, _, rfl, _, rfl, C, rs, m, S, j, rfl, ra, s1, by omega, m1, fun l H3 s3 hl h3 => ?_⟩
    have hlC : l ≠ C := fun w => by rw [w, ra.top] at hl; cases hl
    have hC3 := s3 _ _ ra.top
    refine ⟨C, _, _, rfl, rfl, hC3, by rw [List.length_map, ra.len]; omega, ?_⟩
    refine ⟨_, rs ++ [l], rfl, (sm.trans s3).upd hC hC3 _, by rw [upd_same, List.map_append]; rfl, by rw [List.length_append, ra.len]; rfl, fun a ha => ?_, fun i a ha => ?_⟩
    · rcases List.mem_append.mp ha with w | w
      · exact ra.ne a w
      · rw [List.mem_singleton.mp w]; exact hlC
    · by_cases ci : i < rs.length
      · rw [List.getElem?_append_left ci] at ha
        rw [upd_ne (ra.ne a (List.mem_of_getElem? ha))]
        exact s3 _ _ (ra.at_ i a ha)
      · have e : i = rs.length := by
          have := (List.getElem?_eq_some_iff.mp ha).1
          rw [List.length_append] at this
          simp only [List.length_cons, List.length_nil] at this
          omega
        subst e
        rw [List.getElem?_append_right (Nat.le_refl _), Nat.sub_self] at ha
        cases ha
        rw [upd_ne hlC, ra.len]
        exact h3
  · rintro σ' H2 ⟨x4, rs, rfl, sm, ra⟩
    have hN : N < rs.length := by rw [ra.len]; omega
    have eN : rs[N]? = some rs[N] := List.getElem?_eq_getElem hN
    have hNa := ra.at_ _ _ eN
    generalize rs[N] = aN at eN hNa
    exact ⟨_, rfl, _, rfl, C, _, _, .ref aN, rfl, rfl, SqL.of ra.top, atI_nat (by rw [List.getElem?_map, eN]; rfl), _, rfl, aN, _, _, .int (cI m N S), rfl, rfl, SqL.of hNa, atI_nat (crow_at (Nat.le_refl _)), q H2 sm⟩
end S51
set_option Elab.async false
set_option linter.all false
set_option maxRecDepth 100000
set_option exponentiation.threshold 5000
namespace S51
open PySem L2 SC PyProof.Rows S41 S40 S51
theorem sc_longest : FnScope ["size", "many"] ["size", "many"] (defScope (top 23)) := ⟨rfl, rfl, rfl, by decide +kernel, rfl, by decide +kernel, by decide +kernel⟩
theorem v_longest : Vs ["size", "many"] (defScope (top 23)) := Vs.of (by decide +kernel)
theorem l_longest : Ls ["size", "many"] (defScope (top 23)) := Ls.of sc_longest.nd (by decide +kernel)
theorem g_longest : Gs ["check_size", "check_count", "MOST_SCATTERED", "range"] (defScope (top 23)) := Gs.of (by decide +kernel)
theorem ok_longest {P : Program} {w : World} {K : PySem.W.Frag} {mg : Str → Option Value} {base : Heap} {f : Addr} {fd : FuncData} {cl : CN → Addr} (F : Fun K "longest" "longest" (top 23) f fd) (T : Tx K mg cl) (O_check_size : Own P w K mg base true 2 "check_size" ["size"] (spCheckSize (cl .BadSize))) (O_check_count : Own P w K mg base true 2 "check_count" ["count", "least", "most"] (spCheckCount (cl .BadSize))) (O_scatterings_up_to : Own P w K mg base true 3 "scatterings_up_to" ["size", "many", "most"] (spScat)) :
    FnOk P w K mg base (CX1 P w) true 4 f fd ["size", "many"] (spLongest (cl .BadSize)) := by
  have S := sc_longest
  have Vv := v_longest
  have Lo := l_longest
  have Gg := g_longest
  refine F.ok S (fun vs H Q E h => ?_) (fun cdv A outer s H vs Q E hx hcx hh hr D h => ?_)
  · obtain ⟨v, m, T, T', rfl, _⟩ := h; rfl
  obtain ⟨v, m, Tv, Tm, rfl, kv, km, q⟩ := h
  refine ⟨_, (pss_cons (ps_expr (cOwn (i := 0) Gg O_check_size (hr.mono (by decide)) passX (pa_cons (vn Vv 0) pa_nil)))
    (pss_cons (ps_expr (cOwn (i := 1) Gg O_check_count (hr.mono (by decide)) passX (pa_cons (vn Vv 1) (pa_cons pe_int (pa_cons (nCon (i := 2) Gg T.cMOST_SCATTERED) pa_nil)))))
    (pss_one (ps_ret (cmp (Nc := ["most", "size", "many"]) (caps := [none, some 0, some 1]) (j := 0) (N := ["size", "many"]) (sc := defScope (top 23)) (Lc := ["scatterings_up_to"]) ⟨rfl, by decide +kernel, by decide +kernel, by decide +kernel, rfl, by decide +kernel, by decide +kernel, rfl, rfl, by decide +kernel⟩ (iR1 (i := 3) Gg T.nrange (pa_cons (pe_op op_add (vn Vv 1) pe_int) pa_nil)) (fun _ _ _ _ _ _ Vv Gg => pf_nil) (fun _ _ _ _ _ _ Vv Gg => (cOwn (i := 0) Gg O_scatterings_up_to (hr.mono (by decide)) passN (pa_cons (vn Vv 1) (pa_cons (vn Vv 2) (pa_cons (vn Vv 0) pa_nil)))))))))), ?_⟩
  refine ⟨_, rfl, v, Tv, rfl, kv, ite2 (fun c => ?_) fun c => ?_⟩
  · refine ⟨_, rfl, m, 0, 64, Tm, rfl, km, ite2 (fun c2 => ?_) fun c2 => ?_⟩
    · have ok : okLong v m = true := by unfold okLong; rw [c, c2]; rfl
      rw [if_pos ok] at q
      obtain ⟨s, k, rfl, rfl, s2, _, _⟩ := okLong_nat ok
      obtain ⟨s21, k24, q⟩ := q s k rfl rfl s2
      refine ⟨_, rfl, _, _, rfl, rfl, (k : Int) + 1, rfl, by omega, by omega, fun D hD => ?_⟩
      rw [show ((k : Int) + 1).toNat = k + 1 by omega]
      refine comp_rangeG (fun i v => v = .int (cI i k s)) hD (by omega) (fun i ys H2 Q' hi sm h2 hQ => ?_) ?_
      · exact ⟨_, rfl, _, rfl, _, rfl, s, k, i, by rw [Int.zero_add]; rfl, by omega, k24, by omega, fun H' s' => hQ _ H' rfl s'⟩
      · intro H2 ys sm h2 hl hR
        refine q D H2 sm ?_
        rw [h2]
        refine congrArg (fun z => some (HO.lst z)) (List.ext_getElem? fun i => ?_)
        by_cases ci : i < k + 1
        · rw [longL_at (by omega)]
          have e : ys[i]? = some ys[i] := List.getElem?_eq_getElem (by omega)
          rw [e, hR i _ e]
        · rw [List.getElem?_eq_none (by omega), List.getElem?_eq_none (by rw [longL_len]; omega)]
    · have ok : ¬ okLong v m = true := by unfold okLong; rw [Bool.eq_false_iff.mpr c2, Bool.and_false]; exact Bool.false_ne_true
      rw [if_neg ok] at q
      exact q
  · have ok : ¬ okLong v m = true := by unfold okLong; rw [Bool.eq_false_iff.mpr c, Bool.false_and]; exact Bool.false_ne_true
    rw [if_neg ok] at q
    exact q
end S51
set_option Elab.async false
set_option linter.all false
set_option maxRecDepth 100000
set_option exponentiation.threshold 5000
namespace S51
open PySem L2 SC PyProof.Rows S41 S40 S51
theorem sc_mean_longest : FnScope ["size", "many", "within", "scatterings", "above"] ["size", "many"] (defScope (top 24)) := ⟨rfl, rfl, rfl, by decide +kernel, rfl, by decide +kernel, by decide +kernel⟩
theorem v_mean_longest : Vs ["size", "many", "within", "scatterings", "above"] (defScope (top 24)) := Vs.of (by decide +kernel)
theorem l_mean_longest : Ls ["size", "many", "within", "scatterings", "above"] (defScope (top 24)) := Ls.of sc_mean_longest.nd (by decide +kernel)
theorem g_mean_longest : Gs ["longest", "power", "sum", "fraction"] (defScope (top 24)) := Gs.of (by decide +kernel)
theorem ok_mean_longest {P : Program} {w : World} {K : PySem.W.Frag} {mg : Str → Option Value} {base : Heap} {f : Addr} {fd : FuncData} {cl : CN → Addr} (F : Fun K "mean_longest" "mean_longest" (top 24) f fd) (T : Tx K mg cl) (O_fraction : Own P w K mg base true 2 "fraction" ["top", "under"] (spFrac)) (O_power : Own P w K mg base true 1 "power" ["base", "exponent"] (spPow)) (O_longest : Own P w K mg base true 4 "longest" ["size", "many"] (spLongest (cl .BadSize))) :
    FnOk P w K mg base (CX1 P w) true 5 f fd ["size", "many"] (spMean (cl .BadSize)) := by
  have S := sc_mean_longest
  have Vv := v_mean_longest
  have Lo := l_mean_longest
  have Gg := g_mean_longest
  refine F.ok S (fun vs H Q E h => ?_) (fun cdv A outer s H vs Q E hx hcx hh hr D h => ?_)
  · obtain ⟨v, m, T, T', rfl, _⟩ := h; rfl
  obtain ⟨v, m, Tv, Tm, rfl, kv, km, q⟩ := h
  refine ⟨_, (pss_cons (set_v (i := 2) Lo (cOwn (i := 0) Gg O_longest (hr.mono (by decide)) passX (pa_cons (vn Vv 0) (pa_cons (vn Vv 1) pa_nil))))
    (pss_cons (set_v (i := 3) Lo (cOwn (i := 1) Gg O_power (hr.mono (by decide)) passX (pa_cons (vn Vv 0) (pa_cons (vn Vv 1) pa_nil))))
    (pss_cons (set_v (i := 4) Lo (cB (i := 2) Gg (call_sum) T.nsum bt_sum (pa_cons (cmp (Nc := ["count", "scatterings"]) (caps := [none, some 3]) (j := 0) (N := ["size", "many", "within", "scatterings", "above"]) (sc := defScope (top 24)) (Lc := []) ⟨rfl, by decide +kernel, by decide +kernel, by decide +kernel, rfl, by decide +kernel, by decide +kernel, rfl, rfl, by decide +kernel⟩ (pi_list (vn Vv 2)) (fun _ _ _ _ _ _ Vv Gg => pf_nil) (fun _ _ _ _ _ _ Vv Gg => (pe_op op_sub (vn Vv 1) (vn Vv 0)))) pa_nil)))
    (pss_one (ps_ret (cOwn (i := 3) Gg O_fraction (hr.mono (by decide)) passX (pa_cons (vn Vv 4) (pa_cons (vn Vv 3) pa_nil)))))))), ?_⟩
  refine ⟨_, rfl, _, rfl, v, m, Tv, Tm, rfl, kv, km, ite2 (fun ok => ?_) fun ok => ?_⟩
  · rw [if_pos ok] at q
    intro s k ev em s2
    obtain ⟨s21, k24, q2⟩ := q s k ev em s2
    subst ev em
    refine ⟨s21, k24, fun p H1 sm hp => ?_⟩
    have hpos : 0 < s ^ k := Nat.pow_pos (by omega)
    refine ⟨_, rfl, _, rfl, s, k, rfl, ⟨by omega, by omega⟩, ⟨by omega, by omega⟩, ?_⟩
    rw [Int.toNat_natCast, ← Int.natCast_pow]
    refine ⟨_, rfl, p, rfl, ⟨_, SqL.of hp⟩, fun D hD => comp_list (xs := longL s k) (subV ((s ^ k : Nat) : Int)) (SqL.of hp) hD (by rw [longL_len]; omega) (fun x ys Q' hx hQ => ?_) ?_⟩
    · obtain ⟨n, _, rfl⟩ := longL_mem hx
      exact ⟨_, rfl, _, rfl, _, _, rfl, rfl, hQ⟩
    rw [subV_map]
    refine ⟨D, (List.range (k + 1)).map fun m => ((s ^ k : Nat) : Int) - cI m k s, rfl, SqL.of upd_same, ?_⟩
    rw [SC.sum_list, ← above_eq s21 k24]
    exact ⟨_, rfl, _, rfl, above s k, s ^ k, rfl, hpos, pow_big s21 k24, fun v H' s' hv => q2 v H' (sm.trans ((Same.new hD _).trans s')) hv⟩
  · rw [if_neg ok] at q
    exact q
end S51
set_option Elab.async false
set_option linter.all false
set_option maxRecDepth 100000
set_option exponentiation.threshold 5000
namespace S51
open PySem L2 SC PyProof.Rows S41 S40 S51
theorem sc__law_cell : FnScope ["_law_script", "_law_k"] ["_law_script", "_law_k"] (defScope (top 26)) := ⟨rfl, rfl, rfl, by decide +kernel, rfl, by decide +kernel, by decide +kernel⟩
theorem v__law_cell : Vs ["_law_script", "_law_k"] (defScope (top 26)) := Vs.of (by decide +kernel)
theorem l__law_cell : Ls ["_law_script", "_law_k"] (defScope (top 26)) := Ls.of sc__law_cell.nd (by decide +kernel)
theorem g__law_cell : Gs ["len"] (defScope (top 26)) := Gs.of (by decide +kernel)
theorem ok__law_cell {P : Program} {w : World} {K : PySem.W.Frag} {mg : Str → Option Value} {base : Heap} {f : Addr} {fd : FuncData} {cl : CN → Addr} (F : Fun K "_law_cell" "_law_cell" (top 26) f fd) (T : Tx K mg cl) :
    FnOk P w K mg base (CX1 P w) true 1 f fd ["_law_script", "_law_k"] (spCell K) := by
  have S := sc__law_cell
  have Vv := v__law_cell
  have Lo := l__law_cell
  have Gg := g__law_cell
  refine F.ok S (fun vs H Q E h => ?_) (fun cdv A outer s H vs Q E hx hcx hh hr D h => ?_)
  · obtain ⟨v, r, k, rfl, _⟩ := h; rfl
  obtain ⟨p, ns, k, rfl, hp', hbig, ⟨k0, k1⟩, q⟩ := h
  refine ⟨_, (pss_cons (ps_if (pt_cmpR (op_eqL hr.units0) (vn Vv 0) (pe_lst pa_nil) (nomark _)) (pss_one (ps_ret (pe_op op_mulA (vn Vv 1) pe_int))) pss_nil)
    (pss_one (ps_ret (pe_op op_add (pe_ix ix_list (vn Vv 0) (pe_op op_mod (vn Vv 1) (cB (i := 0) Gg (call_len_seq) T.nlen bt_len (pa_cons (vn Vv 0) pa_nil))) (fun _ _ => rfl)) (pe_op op_mulA (pe_op op_fdivA (vn Vv 1) (cB (i := 0) Gg (call_len_seq) T.nlen bt_len (pa_cons (vn Vv 0) pa_nil))) pe_int))))), ?_⟩
  refine ⟨_, rfl, (by decide), fun l hl => ?_⟩
  have s1 := Same.new hl (.lst [])
  refine ⟨p, l, _, _, rfl, rfl, s1.seq hp', SqL.of upd_same, flat_ints ns, rfl, _, rfl, ite2 (fun c => ?_) fun c => ?_⟩
  · exact ⟨_, rfl, _, _, rfl, rfl, mulC (by decide) (by decide), q _ _ s1⟩
  · have hz : sizeLine < 2 ^ 60 := by decide
    have hne : ns ≠ [] := fun e => c (by rw [e]; rfl)
    have hl2 : 0 < ns.length := List.length_pos_iff.mpr hne
    have hl3 : (0 : Int) < ((ns.map V.int).length : Nat) := by rw [List.length_map]; omega
    have hp1 := s1.seq hp'
    obtain ⟨v, e1, e2⟩ := pick (xs := ns.map V.int) k _ rfl hl3
    obtain ⟨n, _, rfl⟩ := List.mem_map.mp e2
    exact ⟨_, rfl, _, rfl, _, rfl, p, _, rfl, .inl hp1, _, _, rfl, rfl, hl3, p, _, _, _, rfl, rfl, hp1, e1, _, rfl, _, rfl, p, _, rfl, .inl hp1, _, _, rfl, rfl, divC hl3 (by rw [List.length_map]; omega), _, _, rfl, rfl, mulC (by decide) (by decide), _, _, rfl, rfl, q _ _ s1⟩
end S51
set_option Elab.async false
set_option linter.all false
set_option maxRecDepth 100000
set_option exponentiation.threshold 5000
namespace S51
open PySem L2 SC PyProof.Rows S41 S40 S51
theorem sc__law_drawn : FnScope ["_law_cell_here", "_law_k", "_law_more"] ["_law_cell_here", "_law_k"] (defScope (top 27)) := ⟨rfl, rfl, rfl, by decide +kernel, rfl, by decide +kernel, by decide +kernel⟩
theorem v__law_drawn : Vs ["_law_cell_here", "_law_k", "_law_more"] (defScope (top 27)) := Vs.of (by decide +kernel)
theorem l__law_drawn : Ls ["_law_cell_here", "_law_k", "_law_more"] (defScope (top 27)) := Ls.of sc__law_drawn.nd (by decide +kernel)
theorem g__law_drawn : Gs [] (defScope (top 27)) := Gs.of (by decide +kernel)
theorem ok__law_drawn {P : Program} {w : World} {K : PySem.W.Frag} {mg : Str → Option Value} {base : Heap} {f : Addr} {fd : FuncData} {cl : CN → Addr} (F : Fun K "_law_drawn" "_law_drawn" (top 27) f fd) (T : Tx K mg cl) :
    FnOk P w K mg base (CX1 P w) true 1 f fd ["_law_cell_here", "_law_k"] (spDrawn) := by
  have S := sc__law_drawn
  have Vv := v__law_drawn
  have Lo := l__law_drawn
  have Gg := g__law_drawn
  refine F.ok S (fun vs H Q E h => ?_) (fun cdv A outer s H vs Q E hx hcx hh hr D h => ?_)
  · obtain ⟨v, r, rfl, _⟩ := h; rfl
  obtain ⟨c, k, rfl, q⟩ := h
  refine ⟨_, (pss_cons (set_v (i := 2) Lo (pe_op op_mod (pe_op op_add (pe_op op_mulA (vn Vv 0) pe_int) (pe_op op_mulA (pe_op op_add (vn Vv 1) pe_int) pe_int)) pe_int))
    (pss_one (ps_ret (pe_op op_mod (pe_op op_mulA (vn Vv 2) (vn Vv 2)) pe_int)))), ?_⟩
  exact ⟨_, rfl, _, _, rfl, rfl, mulC (by decide) (by decide), _, rfl, _, _, rfl, rfl, _, _, rfl, rfl, mulC (by decide) (by decide), _, _, rfl, rfl, _, _, rfl, rfl, posJ (by decide),
    _, rfl, _, rfl, _, _, rfl, rfl, mulM _, _, _, rfl, rfl, posJ (by decide), q _ (Int.emod_nonneg _ (by decide)) (Int.lt_of_lt_of_le (Int.emod_lt_of_pos _ (by decide)) (by decide))⟩
end S51
set_option Elab.async false
set_option linter.all false
set_option maxRecDepth 100000
set_option exponentiation.threshold 5000
namespace S51
open PySem L2 SC PyProof.Rows S41 S40 S51
theorem sc__law_word : FnScope ["_law_e", "_law_flags"] ["_law_e"] (defScope (top 28)) := ⟨rfl, rfl, rfl, by decide +kernel, rfl, by decide +kernel, by decide +kernel⟩
theorem v__law_word : Vs ["_law_e", "_law_flags"] (defScope (top 28)) := Vs.of (by decide +kernel)
theorem l__law_word : Ls ["_law_e", "_law_flags"] (defScope (top 28)) := Ls.of sc__law_word.nd (by decide +kernel)
theorem g__law_word : Gs ["isinstance", "BadRule", "BadKey", "BadSize", "Full", "TooMany", "sum", "ValueError"] (defScope (top 28)) := Gs.of (by decide +kernel)
theorem ok__law_word {P : Program} {w : World} {K : PySem.W.Frag} {mg : Str → Option Value} {base : Heap} {f : Addr} {fd : FuncData} {cl : CN → Addr} (F : Fun K "_law_word" "_law_word" (top 28) f fd) (T : Tx K mg cl) :
    FnOk P w K mg base (CX1 P w) false 1 f fd ["_law_e"] (spWord K cl) := by
  have S := sc__law_word
  have Vv := v__law_word
  have Lo := l__law_word
  have Gg := g__law_word
  refine F.ok S (fun vs H Q E h => ?_) (fun cdv A outer s H vs Q E hx hcx hh hr D h => ?_)
  · obtain ⟨a, o, C, j, rfl, _⟩ := h; rfl
  obtain ⟨a, o, C, j, rfl, ha, ho, W, hj, q⟩ := h
  refine ⟨_, (pss_cons (set_v (i := 1) Lo (pe_lst (pa_cons (cB (i := 0) Gg (call_isiE) T.nisinstance bt_isinstance (pa_cons (vn Vv 0) (pa_cons (nCls (i := 1) Gg T.mBadRule) pa_nil))) (pa_cons (cB (i := 0) Gg (call_isiE) T.nisinstance bt_isinstance (pa_cons (vn Vv 0) (pa_cons (nCls (i := 2) Gg T.mBadKey) pa_nil))) (pa_cons (cB (i := 0) Gg (call_isiE) T.nisinstance bt_isinstance (pa_cons (vn Vv 0) (pa_cons (nCls (i := 3) Gg T.mBadSize) pa_nil))) pa_nil)))))
    (pss_cons (set_v (i := 1) Lo (pe_op op_cat (vn Vv 1) (pe_lst (pa_cons (cB (i := 0) Gg (call_isiE) T.nisinstance bt_isinstance (pa_cons (vn Vv 0) (pa_cons (nCls (i := 4) Gg T.mFull) pa_nil))) pa_nil))))
    (pss_cons (ps_expr (pe_bm PySem.F.plainAttrs_list PySem.F.slot_list_append PySem.F.type_list_append mt_append (vn Vv 1) (pa_cons (cB (i := 0) Gg (call_isiE) T.nisinstance bt_isinstance (pa_cons (vn Vv 0) (pa_cons (nCls (i := 5) Gg T.mTooMany) pa_nil))) pa_nil)))
    (pss_cons (ps_if (PW.pt (pw_or (pt_cmpR op_ne (cB (i := 6) Gg (call_sum) T.nsum bt_sum (pa_cons (cmp (Nc := ["_law_flag"]) (caps := [none]) (j := 0) (N := ["_law_e", "_law_flags"]) (sc := defScope (top 28)) (Lc := ["int"]) ⟨rfl, by decide +kernel, by decide +kernel, by decide +kernel, rfl, by decide +kernel, by decide +kernel, rfl, rfl, by decide +kernel⟩ (pi_list (vn Vv 1)) (fun _ _ _ _ _ _ Vv Gg => pf_nil) (fun _ _ _ _ _ _ Vv Gg => (cTy (i := 0) Gg call_int1 T.nint bt_int (pa_cons (vn Vv 0) pa_nil)))) pa_nil)) pe_int (nomark _)) (pw_or1 (pt_not (pt_val (cB (i := 0) Gg (call_isiE) T.nisinstance bt_isinstance (pa_cons (vn Vv 0) (pa_cons (nTy (i := 7) Gg T.nValueError bt_ValueError) pa_nil)))))))) (pss_one (ps_ret pe_str)) pss_nil)
    (pss_one (ps_ret (pe_ix ix_list (pe_lst (pa_cons pe_str (pa_cons pe_str (pa_cons pe_str (pa_cons pe_str (pa_cons pe_str pa_nil)))))) (pe_bm PySem.F.plainAttrs_list PySem.F.slot_list_index PySem.F.type_list_index mt_index (vn Vv 1) (pa_cons pe_bl pa_nil)) (fun _ _ => rfl)))))))), ?_⟩
  refine ⟨_, rfl, _, _, C, _, rfl, ⟨a, o, rfl, ha, ho⟩, W.k, kc W.f0, _, rfl, _, _, C, _, rfl, ⟨a, o, rfl, ha, ho⟩, W.k, kc W.f1, _, rfl, _, _, C, _, rfl, ⟨a, o, rfl, ha, ho⟩, W.k, kc W.f2, small (n := 3) (by decide), fun p1 h1 => ?_⟩
  have s1 := Same.new h1 (.lst [.bl (j == 0), .bl (j == 1), .bl (j == 2)])
  refine ⟨_, rfl, _, rfl, _, _, C, _, rfl, ⟨a, o, rfl, s1 _ _ ha, ho⟩, W.k, kc W.f3, small (n := 1) (by decide), fun p2 h2 => ?_⟩
  have s2 := Same.new h2 (.lst [.bl (j == 3)])
  refine ⟨p1, p2, _, _, rfl, rfl, s2 _ _ upd_same, upd_same, small (n := 4) (by decide), fun p3 h3 => ?_⟩
  have s3 := Same.new h3 (.lst ([.bl (j == 0), .bl (j == 1), .bl (j == 2)] ++ [.bl (j == 3)]))
  have sA := s1.trans (s2.trans s3)
  refine ⟨_, rfl, .inl ⟨rfl, _, SqL.of upd_same⟩, _, rfl, _, _, C, _, rfl, ⟨a, o, rfl, sA _ _ ha, ho⟩, W.k, kc W.f4, p3, _, _, rfl, rfl, upd_same, small1000 (n := 4) (by decide), ?_⟩
  rw [upd_upd]
  have hn3 : H p3 = none := (s1.trans s2).free h3
  have sB : Same H (upd (upd (upd H p1 (.lst [.bl (j == 0), .bl (j == 1), .bl (j == 2)])) p2 (.lst [.bl (j == 3)])) p3 (.lst (([.bl (j == 0), .bl (j == 1), .bl (j == 2)] ++ [.bl (j == 3)]) ++ [.bl (j == 4)]))) := (s1.trans s2).trans (Same.new h3 _)
  have hp3 : (upd (upd (upd H p1 (.lst [.bl (j == 0), .bl (j == 1), .bl (j == 2)])) p2 (.lst [.bl (j == 3)])) p3 (.lst (([.bl (j == 0), .bl (j == 1), .bl (j == 2)] ++ [.bl (j == 3)]) ++ [.bl (j == 4)]))) p3 = some (.lst ([j == 0, j == 1, j == 2, j == 3, j == 4].map V.bl)) := upd_same
  revert sB hp3
  generalize (upd (upd (upd H p1 (.lst [.bl (j == 0), .bl (j == 1), .bl (j == 2)])) p2 (.lst [.bl (j == 3)])) p3 (.lst (([.bl (j == 0), .bl (j == 1), .bl (j == 2)] ++ [.bl (j == 3)]) ++ [.bl (j == 4)]))) = H3
  intro sB hp3
  refine ⟨_, rfl, p3, rfl, ⟨_, SqL.of hp3⟩, fun D hD => comp_list (xs := [j == 0, j == 1, j == 2, j == 3, j == 4].map V.bl) flagI (SqL.of hp3) hD (by simp) (fun x ys Q' hx hQ => ?_) ?_⟩
  · obtain ⟨b, _, rfl⟩ := List.mem_map.mp hx
    exact ⟨_, rfl, .inr ⟨b, rfl, hQ⟩⟩
  · refine ⟨D, [j == 0, j == 1, j == 2, j == 3, j == 4].map fun b => if b then 1 else 0, rfl, SqL.of (by rw [upd_same, List.map_map, List.map_map]; rfl), rfl, _, rfl, ?_⟩
    have sD := Same.new hD (.lst (([j == 0, j == 1, j == 2, j == 3, j == 4].map V.bl).map flagI))
    have hs : (([j == 0, j == 1, j == 2, j == 3, j == 4].map fun b => if b = true then (1 : Int) else 0).sum) = 1 := by rcases j5 hj with rfl | rfl | rfl | rfl | rfl <;> rfl
    refine iteNS (congrArg V.int hs) ⟨_, rfl, _, _, C, _, rfl, ⟨a, o, rfl, sD _ _ (sB _ _ ha), ho⟩, W.k, kty W.v, _, rfl, iteF ?_⟩
    refine ⟨small (n := 5) (by decide), fun p6 h6 => ?_⟩
    have s6 := Same.new h6 (.lst [.str "BadRule", .str "BadKey", .str "BadSize", .str "Full", .str "TooMany"])
    have h3' := s6 _ _ (sD _ _ hp3)
    refine ⟨_, rfl, .inl ⟨rfl, _, SqL.of h3'⟩, p3, _, .bl true, j, rfl, rfl, h3', rfl, rfl, ?_, p6, _, _, .str (nm j), rfl, rfl, SqL.of upd_same, ?_, q _ (sB.trans (sD.trans s6))⟩
    · rcases j5 hj with rfl | rfl | rfl | rfl | rfl <;> rfl
    · refine atI_nat ?_
      rcases j5 hj with rfl | rfl | rfl | rfl | rfl <;> rfl
end S51
set_option Elab.async false
set_option linter.all false
set_option maxRecDepth 100000
set_option exponentiation.threshold 5000
namespace S51
open PySem L2 SC PyProof.Rows S41 S40 S51
theorem sc__law_told : FnScope ["_law_way", "_law_size", "_law_many", "_law_e"] ["_law_way", "_law_size", "_law_many"] (defScope (top 29)) := ⟨rfl, rfl, rfl, by decide +kernel, rfl, by decide +kernel, by decide +kernel⟩
theorem v__law_told : Vs ["_law_way", "_law_size", "_law_many", "_law_e"] (defScope (top 29)) := Vs.of (by decide +kernel)
theorem l__law_told : Ls ["_law_way", "_law_size", "_law_many", "_law_e"] (defScope (top 29)) := Ls.of sc__law_told.nd (by decide +kernel)
theorem g__law_told : Gs ["StrewError", "longest", "mean_longest", "_law_word"] (defScope (top 29)) := Gs.of (by decide +kernel)
theorem ok__law_told {P : Program} {w : World} {K : PySem.W.Frag} {mg : Str → Option Value} {base : Heap} {f : Addr} {fd : FuncData} {cl : CN → Addr} (F : Fun K "_law_told" "_law_told" (top 29) f fd) (T : Tx K mg cl) (O_longest : Own P w K mg base true 4 "longest" ["size", "many"] (spLongest (cl .BadSize))) (O_mean_longest : Own P w K mg base true 5 "mean_longest" ["size", "many"] (spMean (cl .BadSize))) (O__law_word : Own P w K mg base false 1 "_law_word" ["_law_e"] (spWord K cl)) :
    FnOk P w K mg base (CX1 P w) true 6 f fd ["_law_way", "_law_size", "_law_many"] (spToldM) := by
  have S := sc__law_told
  have Vv := v__law_told
  have Lo := l__law_told
  have Gg := g__law_told
  refine F.ok S (fun vs H Q E h => ?_) (fun cdv A outer s H vs Q E hx hcx hh hr D h => ?_)
  · obtain ⟨w, v, m, T, T', rfl, _⟩ := h; rfl
  obtain ⟨w, v, m, Tv, Tm, rfl, hw3, kv, km, q⟩ := h
  have h0 := hcx rfl
  refine ⟨_, (pss_one (tryx (j := 0) (i := 3) Gg Lo D h0 (fun E1 pn => (pss_cons (ps_if (pt_cmpR op_eq (vn Vv 0) pe_int (nomark _)) (pss_one (ps_ret (cOwn (i := 1) Gg O_longest (hr.mono (by decide)) passX (pa_cons (vn Vv 1) (pa_cons (vn Vv 2) pa_nil))))) pss_nil)
    (pss_one (ps_ret (cOwn (i := 2) Gg O_mean_longest (hr.mono (by decide)) passX (pa_cons (vn Vv 1) (pa_cons (vn Vv 2) pa_nil))))))) T.mStrewError (fun a o pn => (pss_one (ps_ret (cOwn (i := 3) Gg O__law_word (markR (hr.mono (by decide))) passN (pa_cons (vn Vv 3) pa_nil))))))), ?_⟩
  refine ⟨fun cls _ H1 => Same H H1 ∧ ∃ j C, cls = .ref C ∧ Wd K cl C j ∧ j < 5 ∧ ∀ H', Same H H' → Q (.str (nm j)) H', ?_, fun cls H1 ⟨s1, j, C, e1, W, hj, e2⟩ => ?_⟩
  · have big : okLong v m ≠ true → (Same H H ∧ ∃ j C, (.ref (cl .BadSize) : Value) = .ref C ∧ Wd K cl C j ∧ j < 5 ∧ ∀ H', Same H H' → Q (.str (nm j)) H') := fun c => by
      rw [if_neg c] at q
      exact ⟨Same.refl H, 2, _, rfl, T.wd2, by decide, q⟩
    rcases (show w = 0 ∨ w = 1 by omega) with rfl | rfl
    · refine ⟨_, rfl, rfl, _, rfl, iteT ⟨_, rfl, _, rfl, v, m, Tv, Tm, rfl, kv, km, ite2 (fun c => ?_) fun c => big c⟩⟩
      intro s k ev em s2
      rw [if_pos c] at q
      obtain ⟨a1, a2, q'⟩ := q s k ev em s2
      rw [if_pos rfl] at q'
      exact ⟨a1, a2, q'⟩
    · refine ⟨_, rfl, rfl, _, rfl, iteF ⟨_, rfl, _, rfl, v, m, Tv, Tm, rfl, kv, km, ite2 (fun c => ?_) fun c => big c⟩⟩
      intro s k ev em s2
      rw [if_pos c] at q
      obtain ⟨a1, a2, q'⟩ := q s k ev em s2
      rw [if_neg (by decide)] at q'
      exact ⟨a1, a2, q'⟩
  · refine ⟨C, e1, W.e, fun a o ha ho => ?_⟩
    exact ⟨_, rfl, a, o, C, j, rfl, upd_same, ho, W, hj, fun H' s2 => e2 H' (s1.trans ((Same.new ha _).trans s2))⟩
end S51
set_option Elab.async false
set_option linter.all false
set_option maxRecDepth 100000
set_option exponentiation.threshold 5000
namespace S51
open PySem L2 SC PyProof.Rows S41 S40 S51
theorem sc__law_fraction : FnScope ["_law_top", "_law_under", "_law_one", "_law_other"] ["_law_top", "_law_under"] (defScope (top 30)) := ⟨rfl, rfl, rfl, by decide +kernel, rfl, by decide +kernel, by decide +kernel⟩
theorem v__law_fraction : Vs ["_law_top", "_law_under", "_law_one", "_law_other"] (defScope (top 30)) := Vs.of (by decide +kernel)
theorem l__law_fraction : Ls ["_law_top", "_law_under", "_law_one", "_law_other"] (defScope (top 30)) := Ls.of sc__law_fraction.nd (by decide +kernel)
theorem g__law_fraction : Gs [] (defScope (top 30)) := Gs.of (by decide +kernel)
theorem ok__law_fraction {P : Program} {w : World} {K : PySem.W.Frag} {mg : Str → Option Value} {base : Heap} {f : Addr} {fd : FuncData} {cl : CN → Addr} (F : Fun K "_law_fraction" "_law_fraction" (top 30) f fd) (T : Tx K mg cl) :
    FnOk P w K mg base (CX1 P w) true 1 f fd ["_law_top", "_law_under"] (spFrac) := by
  have S := sc__law_fraction
  have Vv := v__law_fraction
  have Lo := l__law_fraction
  have Gg := g__law_fraction
  refine F.ok S (fun vs H Q E h => ?_) (fun cdv A outer s H vs Q E hx hcx hh hr D h => ?_)
  · obtain ⟨t, u, rfl, _⟩ := h; rfl
  obtain ⟨t, u, rfl, u0, u1, q⟩ := h
  have hp := passesXE (E := E) D
  refine ⟨_, (pss_cons (par_v (i := 2) (j := 3) Lo (pa_cons (vn Vv 0) (pa_cons (vn Vv 1) pa_nil)))
    (pss_cons (ps_while hp (pt_cmpR op_gt (vn Vv 3) pe_int (nomark _)) (pss_one (par_v (i := 2) (j := 3) Lo (pa_cons (vn Vv 3) (pa_cons (pe_op op_mod (vn Vv 2) (vn Vv 3)) pa_nil)))))
    (pss_one (ps_ret (pe_tup (pa_cons (pe_op op_fdivA (vn Vv 0) (vn Vv 2)) (pa_cons (pe_op op_fdivA (vn Vv 1) (vn Vv 2)) pa_nil))))))), ?_⟩
  have g0 := gcd_pos (t := t) u0
  have g1 := gcd_le (t := t) u0
  have dv : ∀ i : Int, CDivA i (Nat.gcd t u : Nat) := fun i => divN g0 (Nat.lt_of_le_of_lt g1 u1)
  refine ⟨_, rfl, _, rfl, _, _, rfl, ?_⟩
  refine ⟨fun m σ H2 => ∃ (a b : Nat), σ = [some (.int t), some (.int u), some (.int a), some (.int b)] ∧ H2 = H ∧ Nat.gcd a b = Nat.gcd t u ∧ m = b, ⟨u, t, u, rfl, rfl, rfl, rfl⟩, ?_⟩
  rintro m σ H2 ⟨a, b, rfl, rfl, e3, e4⟩
  refine ⟨_, rfl, _, _, rfl, rfl, _, rfl, ite2 (fun c => ?_) fun c => ?_⟩
  · have hb : 0 < b := by have := of_decide_eq_true c; omega
    refine ⟨_, fun _ _ h => h, ?_⟩
    refine ⟨_, rfl, _, rfl, _, rfl, _, _, rfl, rfl, posJ (by omega), _, _, rfl, ?_⟩
    refine ⟨a % b, by rw [e4]; exact Nat.mod_lt _ hb, b, a % b, rfl, rfl, ?_, rfl⟩
    rw [← e3, Nat.gcd_comm b, ← Nat.gcd_rec, Nat.gcd_comm]
  · have hb : b = 0 := by
      by_cases z : 0 < b
      · exact absurd (decide_eq_true (by omega)) c
      · omega
    subst hb
    rw [Nat.gcd_zero_right] at e3
    subst e3
    exact ⟨_, rfl, _, rfl, _, _, rfl, rfl, dv _, _, rfl, _, rfl, _, _, rfl, rfl, dv _, (show 2 ≤ sizeLine by decide), fun p hp => q _ _ (Same.new hp _) ⟨p, rfl, upd_same⟩⟩
end S51
set_option Elab.async false
set_option linter.all false
set_option maxRecDepth 100000
set_option exponentiation.threshold 5000
namespace S51
open PySem L2 SC PyProof.Rows S41 S40 S51
theorem sc__law_power : FnScope ["_law_size", "_law_many", "_law_found", "_law_turn"] ["_law_size", "_law_many"] (defScope (top 31)) := ⟨rfl, rfl, rfl, by decide +kernel, rfl, by decide +kernel, by decide +kernel⟩
theorem v__law_power : Vs ["_law_size", "_law_many", "_law_found", "_law_turn"] (defScope (top 31)) := Vs.of (by decide +kernel)
theorem l__law_power : Ls ["_law_size", "_law_many", "_law_found", "_law_turn"] (defScope (top 31)) := Ls.of sc__law_power.nd (by decide +kernel)
theorem g__law_power : Gs ["range"] (defScope (top 31)) := Gs.of (by decide +kernel)
theorem ok__law_power {P : Program} {w : World} {K : PySem.W.Frag} {mg : Str → Option Value} {base : Heap} {f : Addr} {fd : FuncData} {cl : CN → Addr} (F : Fun K "_law_power" "_law_power" (top 31) f fd) (T : Tx K mg cl) :
    FnOk P w K mg base (CX1 P w) true 1 f fd ["_law_size", "_law_many"] (spPow) := by
  have S := sc__law_power
  have Vv := v__law_power
  have Lo := l__law_power
  have Gg := g__law_power
  refine F.ok S (fun vs H Q E h => ?_) (fun cdv A outer s H vs Q E hx hcx hh hr D h => ?_)
  · obtain ⟨b, e, rfl, _⟩ := h; rfl
  obtain ⟨b, e, rfl, ⟨b0, b1⟩, ⟨e0, e1⟩, q⟩ := h
  have hp := passesXE (E := E) D
  refine ⟨_, (pss_cons (set_v (i := 2) Lo pe_int)
    (pss_cons (ps_for hp (iR1 (i := 0) Gg T.nrange (pa_cons (vn Vv 1) pa_nil)) (tgt_v (i := 3) Lo)
    (pss_one (set_v (i := 2) Lo (pe_op op_mulA (vn Vv 2) (vn Vv 0)))))
    (pss_one (ps_ret (vn Vv 2))))), ?_⟩
  refine ⟨_, rfl, e, rfl, by omega, by omega, for_range (n := e.toNat) (fun i σ H2 => ∃ v, σ = [some (.int b), some (.int e), some (.int (b ^ i)), v] ∧ H2 = H) ⟨none, by rw [Int.pow_zero]; rfl, rfl⟩ (fun i σ H2 hi ⟨v, z1, z2⟩ => ?_) (fun σ H2 ⟨v, z1, z2⟩ => ?_)⟩
  · subst z1 z2
    refine ⟨_, rfl, _, rfl, _, _, rfl, rfl, mulC b0 b1, some (.int (0 + i)), ?_, rfl⟩
    rw [Int.pow_succ]
    rfl
  · subst z1 z2
    exact ⟨_, rfl, q⟩
end S51
set_option Elab.async false
set_option linter.all false
set_option maxRecDepth 100000
set_option exponentiation.threshold 5000
namespace S51
open PySem L2 SC PyProof.Rows S41 S40 S51
theorem sc__law_heights : FnScope ["_law_size", "_law_many", "_law_found", "_law_number", "_law_counts", "_law_j"] ["_law_size", "_law_many"] (defScope (top 32)) := ⟨rfl, rfl, rfl, by decide +kernel, rfl, by decide +kernel, by decide +kernel⟩
theorem v__law_heights : Vs ["_law_size", "_law_many", "_law_found", "_law_number", "_law_counts", "_law_j"] (defScope (top 32)) := Vs.of (by decide +kernel)
theorem l__law_heights : Ls ["_law_size", "_law_many", "_law_found", "_law_number", "_law_counts", "_law_j"] (defScope (top 32)) := Ls.of sc__law_heights.nd (by decide +kernel)
theorem g__law_heights : Gs ["range", "_law_power", "max"] (defScope (top 32)) := Gs.of (by decide +kernel)
theorem ok__law_heights {P : Program} {w : World} {K : PySem.W.Frag} {mg : Str → Option Value} {base : Heap} {f : Addr} {fd : FuncData} {cl : CN → Addr} (F : Fun K "_law_heights" "_law_heights" (top 32) f fd) (T : Tx K mg cl) (O__law_power : Own P w K mg base true 1 "_law_power" ["_law_size", "_law_many"] (spPow)) :
    FnOk P w K mg base (CX1 P w) true 2 f fd ["_law_size", "_law_many"] (spHeights) := by
  have S := sc__law_heights
  have Vv := v__law_heights
  have Lo := l__law_heights
  have Gg := g__law_heights
  refine F.ok S (fun vs H Q E h => ?_) (fun cdv A outer s H vs Q E hx hcx hh hr D h => ?_)
  · obtain ⟨s, k, rfl, _⟩ := h; rfl
  obtain ⟨s, k, rfl, s2, s1, k1, w1, q⟩ := h
  have hp := passesXE (E := E) D
  refine ⟨_, (pss_cons (set_v (i := 2) Lo (pe_op op_rep (pe_lst (pa_cons pe_int pa_nil)) (pe_op op_add (vn Vv 1) pe_int)))
    (pss_cons (ps_for hp (iR1 (i := 0) Gg T.nrange (pa_cons (cOwn (i := 1) Gg O__law_power (hr.mono (by decide)) passX (pa_cons (vn Vv 0) (pa_cons (vn Vv 1) pa_nil))) pa_nil)) (tgt_v (i := 3) Lo)
    (pss_cons (set_v (i := 4) Lo (pe_op op_rep (pe_lst (pa_cons pe_int pa_nil)) (vn Vv 0)))
    (pss_cons (ps_for hp (iR1 (i := 0) Gg T.nrange (pa_cons (vn Vv 1) pa_nil)) (tgt_v (i := 5) Lo)
    (pss_cons (ps_asg (pe_op op_add (pe_ix ix_list (vn Vv 4) (pe_op op_mod (vn Vv 3) (vn Vv 0)) (fun _ _ => rfl)) pe_int) (pg_sub (vn Vv 4) (pe_op op_mod (vn Vv 3) (vn Vv 0)) set_list))
    (pss_one (set_v (i := 3) Lo (pe_op op_fdivA (vn Vv 3) (vn Vv 0))))))
    (pss_one (ps_asg (pe_op op_add (pe_ix ix_list (vn Vv 2) (cB (i := 2) Gg (call_maxL rfl) T.nmax bt_max (pa_cons (vn Vv 4) pa_nil)) (fun _ _ => rfl)) pe_int) (pg_sub (vn Vv 2) (cB (i := 2) Gg (call_maxL rfl) T.nmax bt_max (pa_cons (vn Vv 4) pa_nil)) set_list))))))
    (pss_one (ps_ret (vn Vv 2))))), ?_⟩
  have hz : 100000 < sizeLine := by decide
  refine seq_cut (fun σ' H' => ∃ F, σ' = [some (.int s), some (.int k), some (.ref F), none, none, none] ∧ Same H H' ∧ H F = none ∧ H' F = some (.lst (hgtL s k 0))) (fun U hU => ?_) ?_
  · refine ⟨small (n := 1) (by decide), fun l0 hl0 => ⟨_, rfl, _, _, rfl, rfl, l0, (k : Int) + 1, _, rfl, rfl, upd_same, by omega, by omega, ?_, fun F hF => ?_⟩⟩
    · simp only [List.length_cons, List.length_nil]; omega
    rw [show ((k : Int) + 1).toNat = k + 1 by omega, rep_one]
    have s0 := Same.new hl0 (.lst [.int 0])
    exact hU _ _ ⟨F, rfl, s0.trans (Same.new hF _), s0.free hF, upd_same⟩
  rintro σ' H1 ⟨F, rfl, s0, hF, hF1⟩
  refine ⟨_, rfl, _, rfl, s, k, rfl, ⟨by omega, by omega⟩, ⟨by omega, by omega⟩, ((s ^ k : Nat) : Int), by rw [Int.toNat_natCast, ← Int.natCast_pow], by omega, by omega, ?_⟩
  rw [Int.toNat_natCast]
  refine for_range (n := s ^ k) (fun n σ' H2 => ∃ x3 x4 x5, σ' = [some (.int s), some (.int k), some (.ref F), x3, x4, x5] ∧ Same H H2 ∧ H2 F = some (.lst (hgtL s k n))) ⟨none, none, none, rfl, s0, hF1⟩ ?_ ?_
  · rintro n σ' H2 hn ⟨x3, x4, x5, rfl, sm, h2⟩
    show tSeq _ _ _ _ _
    refine seq_cut (fun σ' H' => ∃ L, σ' = [some (.int s), some (.int k), some (.ref F), some (.int n), some (.ref L), x5] ∧ Same H2 H' ∧ H2 L = none ∧ H' L = some (.lst (occL s []))) (fun U hU => ?_) ?_
    · refine ⟨small (n := 1) (by decide), fun l0 hl0 => ⟨_, rfl, l0, (s : Int), _, rfl, rfl, upd_same, by omega, by omega, ?_, fun L hL => ?_⟩⟩
      · simp only [List.length_cons, List.length_nil]; omega
      rw [show ((s : Int)).toNat = s by omega, rep_one]
      have s0 := Same.new hl0 (.lst [.int 0])
      exact hU _ _ ⟨L, by rw [Int.zero_add]; rfl, s0.trans (Same.new hL _), s0.free hL, upd_same⟩
    rintro σ' H3 ⟨L, rfl, s3, hLn, hL⟩
    have hLF : L ≠ F := fun w => by rw [w, h2] at hLn; cases hLn
    refine seq_cut (fun σ' H' => ∃ y3 y5, σ' = [some (.int s), some (.int k), some (.ref F), y3, some (.ref L), y5] ∧ Same H2 H' ∧ H' L = some (.lst (occL s (digs s k n)))) (fun U hU => ?_) ?_
    · refine ⟨_, rfl, k, rfl, by omega, by omega, ?_⟩
      rw [Int.toNat_natCast]
      refine for_range (n := k) (fun i σ' H' => ∃ y5, σ' = [some (.int s), some (.int k), some (.ref F), some (.int (n / s ^ i : Nat)), some (.ref L), y5] ∧ Same H2 H' ∧ H' L = some (.lst (occL s (digs s i n)))) ⟨x5, by rw [Nat.pow_zero, Nat.div_one], s3, hL⟩ ?_ ?_
      · rintro i σ' H4 hi ⟨y5, rfl, s4, h4⟩
        have hx : n / s ^ i % s < s := Nat.mod_lt _ (by omega)
        refine ⟨_, rfl, _, rfl, _, rfl, _, _, rfl, rfl, posJ (by omega), L, _, _, _, rfl, rfl, SqL.of h4, atI_nat (j := n / s ^ i % s) (occL_at hx), _, _, rfl, rfl, ?_⟩
        refine ⟨_, rfl, _, rfl, _, rfl, _, _, rfl, rfl, posJ (by omega), L, _, _, n / s ^ i % s, rfl, rfl, h4, ixN_nat (j := n / s ^ i % s) (by rw [occL_len]; exact hx), ?_⟩
        refine ⟨_, rfl, _, rfl, _, _, rfl, rfl, divC (by omega) (by omega), ?_⟩
        refine ⟨some (.int (0 + (i : Int))), ?_, s4.upd hLn h4 _, ?_⟩
        · rw [Nat.pow_succ, ← Nat.div_div_eq_div_mul]; rfl
        · rw [upd_same, digs_snoc]
          exact congrArg (fun z => some (HO.lst z)) (occL_set hx)
      · rintro σ' H4 ⟨y5, rfl, s4, h4⟩
        exact hU _ _ ⟨_, _, rfl, s4, h4⟩
    rintro σ' H4 ⟨y3, y5, rfl, s4, h4⟩
    have hF4 := s4 _ _ h2
    have hml := mx_le s k n
    have eoc : occL s (digs s k n) = ((List.range s).map fun p => ((occ p (digs s k n) : Nat) : Int)).map V.int := by unfold occL; rw [List.map_map]; rfl
    have hne : ((List.range s).map fun p => ((occ p (digs s k n) : Nat) : Int)) ≠ [] := fun w => by
      have := congrArg List.length w
      rw [List.length_map, List.length_range] at this
      simp only [List.length_nil] at this
      omega
    refine ⟨_, rfl, _, rfl, L, _, rfl, SqL.of (by rw [h4, eoc]), hne, fun M h5 h6 => ?_⟩
    have eM := occL_max (by omega) h5 h6
    subst eM
    refine ⟨F, _, _, .int (hc s k (mx s k n) n : Nat), rfl, rfl, SqL.of hF4, atI_nat (hgtL_at hml), _, _, rfl, rfl, ?_⟩
    refine ⟨_, rfl, _, rfl, L, _, rfl, SqL.of (by rw [h4, eoc]), hne, fun M h5 h6 => ?_⟩
    have eM := occL_max (by omega) h5 h6
    subst eM
    refine ⟨F, _, _, mx s k n, rfl, rfl, hF4, ixN_nat (by rw [hgtL_len]; omega), ?_⟩
    refine ⟨_, _, _, rfl, (sm.trans s4).upd hF hF4 _, ?_⟩
    rw [upd_same]
    exact congrArg (fun z => some (HO.lst z)) hgtL_set
  · rintro σ' H2 ⟨x3, x4, x5, rfl, sm, h2⟩
    exact ⟨_, rfl, q F H2 sm h2⟩
end S51
set_option Elab.async false
set_option linter.all false
set_option maxRecDepth 100000
set_option exponentiation.threshold 5000
namespace S51
open PySem L2 SC PyProof.Rows S41 S40 S51
theorem sc__law_chosen : FnScope ["_law_many", "_law_here", "_law_found", "_law_j"] ["_law_many", "_law_here"] (defScope (top 33)) := ⟨rfl, rfl, rfl, by decide +kernel, rfl, by decide +kernel, by decide +kernel⟩
theorem v__law_chosen : Vs ["_law_many", "_law_here", "_law_found", "_law_j"] (defScope (top 33)) := Vs.of (by decide +kernel)
theorem l__law_chosen : Ls ["_law_many", "_law_here", "_law_found", "_law_j"] (defScope (top 33)) := Ls.of sc__law_chosen.nd (by decide +kernel)
theorem g__law_chosen : Gs ["range"] (defScope (top 33)) := Gs.of (by decide +kernel)
theorem ok__law_chosen {P : Program} {w : World} {K : PySem.W.Frag} {mg : Str → Option Value} {base : Heap} {f : Addr} {fd : FuncData} {cl : CN → Addr} (F : Fun K "_law_chosen" "_law_chosen" (top 33) f fd) (T : Tx K mg cl) :
    FnOk P w K mg base (CX1 P w) true 1 f fd ["_law_many", "_law_here"] (spChoices) := by
  have S := sc__law_chosen
  have Vv := v__law_chosen
  have Lo := l__law_chosen
  have Gg := g__law_chosen
  refine F.ok S (fun vs H Q E h => ?_) (fun cdv A outer s H vs Q E hx hcx hh hr D h => ?_)
  · obtain ⟨n, k, rfl, _⟩ := h; rfl
  obtain ⟨n, k, rfl, n1, k1, q⟩ := h
  have hp := passesXE (E := E) D
  refine ⟨_, (pss_cons (set_v (i := 2) Lo pe_int)
    (pss_cons (ps_for hp (iR1 (i := 0) Gg T.nrange (pa_cons (vn Vv 1) pa_nil)) (tgt_v (i := 3) Lo)
    (pss_one (set_v (i := 2) Lo (pe_op op_fdivA (pe_op op_mulA (vn Vv 2) (pe_op op_sub (vn Vv 0) (vn Vv 3))) (pe_op op_add (vn Vv 3) pe_int)))))
    (pss_one (ps_ret (vn Vv 2))))), ?_⟩
  refine ⟨_, rfl, k, rfl, by omega, by omega, ?_⟩
  rw [Int.toNat_natCast]
  refine for_range (n := k) (fun i σ H2 => ∃ x, σ = [some (.int n), some (.int k), some (.int (chs n i)), x] ∧ H2 = H) ⟨none, rfl, rfl⟩ ?_ ?_
  · rintro i σ H2 hi ⟨x, rfl, rfl⟩
    refine ⟨_, rfl, _, rfl, _, rfl, _, _, rfl, rfl, _, _, rfl, rfl, mulS (by omega) (by omega), _, rfl, _, _, rfl, rfl, _, _, rfl, rfl, divC (by omega) (by omega), ?_⟩
    have e0 : chs n (i + 1) = chs n i * ((n : Int) - (0 + (i : Int))) / (0 + (i : Int) + 1) := by rw [Int.zero_add]; rfl
    exact ⟨_, by rw [e0]; rfl, rfl⟩
  · rintro σ H2 ⟨x, rfl, rfl⟩
    exact ⟨_, rfl, q⟩
end S51
set_option Elab.async false
set_option linter.all false
set_option maxRecDepth 100000
set_option exponentiation.threshold 5000
namespace S51
open PySem L2 SC PyProof.Rows S41 S40 S51
theorem sc__law_bounded : FnScope ["_law_size", "_law_many", "_law_most", "_law_rows", "_law_place", "_law_row", "_law_left", "_law_fit"] ["_law_size", "_law_many", "_law_most"] (defScope (top 34)) := ⟨rfl, rfl, rfl, by decide +kernel, rfl, by decide +kernel, by decide +kernel⟩
theorem v__law_bounded : Vs ["_law_size", "_law_many", "_law_most", "_law_rows", "_law_place", "_law_row", "_law_left", "_law_fit"] (defScope (top 34)) := Vs.of (by decide +kernel)
theorem l__law_bounded : Ls ["_law_size", "_law_many", "_law_most", "_law_rows", "_law_place", "_law_row", "_law_left", "_law_fit"] (defScope (top 34)) := Ls.of sc__law_bounded.nd (by decide +kernel)
theorem g__law_bounded : Gs ["range", "min", "sum"] (defScope (top 34)) := Gs.of (by decide +kernel)
theorem ok__law_bounded {P : Program} {w : World} {K : PySem.W.Frag} {mg : Str → Option Value} {base : Heap} {f : Addr} {fd : FuncData} {cl : CN → Addr} (F : Fun K "_law_bounded" "_law_bounded" (top 34) f fd) (T : Tx K mg cl) (O__law_chosen : Own P w K mg base true 1 "_law_chosen" ["_law_many", "_law_here"] (spChoices)) :
    FnOk P w K mg base (CX1 P w) true 2 f fd ["_law_size", "_law_many", "_law_most"] (spBounded) := by
  have S := sc__law_bounded
  have Vv := v__law_bounded
  have Lo := l__law_bounded
  have Gg := g__law_bounded
  refine F.ok S (fun vs H Q E h => ?_) (fun cdv A outer s H vs Q E hx hcx hh hr D h => ?_)
  · obtain ⟨S, N, m, rfl, _⟩ := h; rfl
  obtain ⟨S, N, m, rfl, s1, n1, m1, q⟩ := h
  have hp := passesXE (E := E) D
  refine ⟨_, (pss_cons (set_v (i := 3) Lo (pe_lst (pa_cons (pe_op op_cat (pe_lst (pa_cons pe_int pa_nil)) (pe_op op_rep (pe_lst (pa_cons pe_int pa_nil)) (vn Vv 1))) pa_nil)))
    (pss_cons (ps_for hp (iR1 (i := 0) Gg T.nrange (pa_cons (vn Vv 0) pa_nil)) (tgt_v (i := 4) Lo)
    (pss_cons (set_v (i := 5) Lo (pe_lst pa_nil))
    (pss_cons (ps_for hp (iR1 (i := 0) Gg T.nrange (pa_cons (pe_op op_add (vn Vv 1) pe_int) pa_nil)) (tgt_v (i := 6) Lo)
    (pss_cons (setC (i := 7) Lo (Nc := ["_law_here", "_law_rows", "_law_left"]) (caps := [none, some 3, some 6]) (N := ["_law_size", "_law_many", "_law_most", "_law_rows", "_law_place", "_law_row", "_law_left", "_law_fit"]) (sc := defScope (top 34)) (Lc := []) ⟨rfl, by decide +kernel, by decide +kernel, by decide +kernel, rfl, by decide +kernel, by decide +kernel⟩ (iR1 (i := 0) Gg T.nrange (pa_cons (pe_op op_add (cB (i := 1) Gg (call_min2 rfl) T.nmin bt_min (pa_cons (vn Vv 2) (pa_cons (vn Vv 6) pa_nil))) pe_int) pa_nil)) (fun _ _ _ _ _ _ Vv Gg => (pf_one (pt_cmpR op_gt (pe_ix (ix_listK (K := K) rfl) (pe_ix (ix_listK (K := K) rfl) (vn Vv 1) (pe_un un_neg pe_int) (fun _ _ => rfl)) (pe_op op_sub (vn Vv 2) (vn Vv 0)) (fun _ _ => rfl)) pe_int (nomark _)))) (fun _ _ _ _ _ _ Vv Gg => (vn Vv 0)))
    (pss_one (ps_expr (pe_bm PySem.F.plainAttrs_list PySem.F.slot_list_append PySem.F.type_list_append mt_append (vn Vv 5) (pa_cons (cB (i := 2) Gg (call_sum) T.nsum bt_sum (pa_cons (cmp (Nc := ["_law_here", "_law_left", "_law_rows"]) (caps := [none, some 6, some 3]) (j := 0) (N := ["_law_size", "_law_many", "_law_most", "_law_rows", "_law_place", "_law_row", "_law_left", "_law_fit"]) (sc := defScope (top 34)) (Lc := ["_law_chosen"]) ⟨rfl, by decide +kernel, by decide +kernel, by decide +kernel, rfl, by decide +kernel, by decide +kernel, rfl, rfl, by decide +kernel⟩ (pi_list (vn Vv 7)) (fun _ _ _ _ _ _ Vv Gg => pf_nil) (fun _ _ _ _ _ _ Vv Gg => (pe_op op_mulA (cOwn (i := 0) Gg O__law_chosen (hr.mono (by decide)) passN (pa_cons (vn Vv 1) (pa_cons (vn Vv 0) pa_nil))) (pe_ix (ix_listK (K := K) rfl) (pe_ix (ix_listK (K := K) rfl) (vn Vv 2) (pe_un un_neg pe_int) (fun _ _ => rfl)) (pe_op op_sub (vn Vv 1) (vn Vv 0)) (fun _ _ => rfl))))) pa_nil)) pa_nil))))))
    (pss_one (ps_expr (pe_bm PySem.F.plainAttrs_list PySem.F.slot_list_append PySem.F.type_list_append mt_append (vn Vv 3) (pa_cons (vn Vv 5) pa_nil)))))))
    (pss_one (ps_ret (pe_ix ix_list (pe_ix ix_list (vn Vv 3) (pe_un un_neg pe_int) (fun _ _ => rfl)) (vn Vv 1) (fun _ _ => rfl)))))), ?_⟩
  have hz : 100000 < sizeLine := by decide
  refine seq_cut (fun σ' H' => ∃ C l1, σ' = [some (.int S), some (.int N), some (.int m), some (.ref C), none, none, none, none] ∧ Same H H' ∧ H C = none ∧ H' C = some (.lst [.ref l1]) ∧ l1 ≠ C ∧ H' l1 = some (.lst (brL m N 0))) (fun U hU => ?_) ?_
  · refine ⟨small (n := 1) (by decide), fun p0 h0 => ⟨small (n := 1) (by decide), fun p1 h1 => ⟨_, rfl, p1, (N : Int), _, rfl, rfl, upd_same, by omega, by omega, ?_, fun p2 h2 => ?_⟩⟩⟩
    · simp only [List.length_cons, List.length_nil]; omega
    have s1' := (Same.new h0 (.lst [.int 1])).trans (Same.new h1 (.lst [.int 0]))
    have s2' := s1'.trans (Same.new h2 (.lst (List.replicate (N : Int).toNat [V.int 0]).flatten))
    refine ⟨p0, p2, [.int 1], _, rfl, rfl, ?_, upd_same, ?_, fun l1 hl1 => ?_⟩
    · exact Same.new h2 _ _ _ (Same.new h1 _ _ _ upd_same)
    · rw [Int.toNat_natCast, rep_one, List.length_map, List.length_range]; show 1 + N ≤ sizeLine; omega
    have e0 : [V.int 1] ++ (List.replicate (N : Int).toNat [V.int 0]).flatten = brL m N 0 := by
      rw [Int.toNat_natCast, rep_one]
      unfold brL
      rw [List.range_succ_eq_map, List.map_cons, List.map_map]
      rfl
    rw [e0]
    have s3' := s2'.trans (Same.new hl1 (.lst (brL m N 0)))
    refine ⟨small (n := 1) (by decide), fun C hC => hU _ _ ⟨C, l1, rfl, s3'.trans (Same.new hC _), s3'.free hC, upd_same, ?_, ?_⟩⟩
    · intro w; rw [← w, upd_same] at hC; cases hC
    · exact Same.new hC _ _ _ upd_same
  rintro σ' H1 ⟨C, l1, rfl, s0, hC, hC1, hne, hl1⟩
  refine ⟨_, rfl, S, rfl, by omega, by omega, ?_⟩
  rw [Int.toNat_natCast]
  refine for_range (n := S) (fun h σ' H2 => ∃ x4 x5 x6 x7 rs b, σ' = [some (.int S), some (.int N), some (.int m), some (.ref C), x4, x5, x6, x7] ∧ Same H H2 ∧ H2 C = some (.lst (rs ++ [.ref b])) ∧ rs.length = h ∧ b ≠ C ∧ H2 b = some (.lst (brL m N h))) ⟨none, none, none, none, [], l1, rfl, s0, hC1, rfl, hne, hl1⟩ ?_ ?_
  · rintro h σ' H2 hh ⟨x4, x5, x6, x7, rs, b, rfl, sm, h2, hrl, hbC, hb⟩
    have atL : atI (rs ++ [.ref b]) (-1) = some (.ref b) := atI_last
    refine ⟨(show 0 ≤ sizeLine by decide), fun R hR => ?_⟩
    have hRC : R ≠ C := fun w => by rw [w, h2] at hR; cases hR
    have hRb : R ≠ b := fun w => by rw [w, hb] at hR; cases hR
    show tSeq Ends.nx _ _ _ _
    refine seq_nx ?_
    refine seq_cut (fun σ' H' => ∃ y6 y7, σ' = [some (.int S), some (.int N), some (.int m), some (.ref C), some (.int (0 + (h : Int))), some (.ref R), y6, y7] ∧ Same H2 H' ∧ H' R = some (.lst (brL m N (h + 1)))) (fun U hU => ?_) ?_
    · refine ⟨_, rfl, _, _, rfl, rfl, (N : Int) + 1, rfl, by omega, by omega, ?_⟩
      rw [show ((N : Int) + 1).toNat = N + 1 by omega]
      refine for_range (n := N + 1) (fun l σ' H' => ∃ y6 y7, σ' = [some (.int S), some (.int N), some (.int m), some (.ref C), some (.int (0 + (h : Int))), some (.ref R), y6, y7] ∧ Same H2 H' ∧ H' R = some (.lst ((List.range l).map fun l => V.int (bI m (h + 1) l)))) ⟨_, _, rfl, Same.new hR _, upd_same⟩ ?_ ?_
      · rintro l σ' H3 hl ⟨y6, y7, rfl, s3, h3⟩
        have hC3 := s3 _ _ h2
        have hb3 := s3 _ _ hb
        have emin : (if (0 + (l : Int)) < (m : Int) then (0 + (l : Int)) else (m : Int)) + 1 = ((min m l + 1 : Nat) : Int) := by
          by_cases c : l < m
          · rw [if_pos (by omega)]; omega
          · rw [if_neg (by omega)]; omega
        have ix : ∀ j : Nat, j ≤ l → (0 + (l : Int)) - (j : Int) = ((l - j : Nat) : Int) := fun j hj => by omega
        show tSeq _ _ _ _ _
        refine seq_cut (fun σ' H' => ∃ D, σ' = [some (.int S), some (.int N), some (.int m), some (.ref C), some (.int (0 + (h : Int))), some (.ref R), some (.int (0 + (l : Int))), some (.ref D)] ∧ Same H3 H' ∧ H' D = some (.lst ((fitL m h l).map fun (j : Nat) => V.int (j : Int)))) (fun U hU => ?_) ?_
        · refine ⟨_, rfl, _, rfl, (m : Int), 0 + (l : Int), rfl, _, _, rfl, rfl, ((min m l + 1 : Nat) : Int), by rw [← emin], by omega, by omega, fun D hD => ?_⟩
          rw [Int.toNat_natCast]
          refine compG_of (comp_rangeF (fun j => .int (j : Int)) (fun j => decide (0 < bI m h (l - j))) hD (by omega) (fun j H4 Q' hj s4 q4 => ?_) (fun j H4 Q' hj _ s4 q4 => ⟨_, rfl, by rw [Int.zero_add]; exact q4⟩) fun H4 s4 h4 => hU _ _ ⟨D, rfl, s4, h4⟩)
          refine ⟨_, rfl, 1, rfl, C, _, _, .ref b, rfl, rfl, SqL.of (s4 _ _ hC3), atL, _, rfl, _, rfl, _, _, rfl, rfl, b, _, _, .int (bI m h (l - j)), rfl, rfl, SqL.of (s4 _ _ hb3), ?_, _, _, rfl, rfl, _, rfl, q4⟩
          rw [Int.zero_add (j : Int), ix j (by omega)]
          exact atI_nat (brL_at (by omega))
        rintro σ' H4 ⟨D, rfl, s4, h4⟩
        have hR4 := s4 _ _ h3
        refine ⟨_, rfl, .inl ⟨rfl, _, SqL.of hR4⟩, _, rfl, D, rfl, ⟨_, SqL.of h4⟩, fun D2 hD2 => comp_list (xs := (fitL m h l).map fun (j : Nat) => V.int (j : Int)) (prodV m h l) (SqL.of h4) hD2 (by rw [List.length_map]; have := fitL_len m h l; omega) (fun x ys Q' hx hQ => ?_) ?_⟩
        · obtain ⟨j, hj, rfl⟩ := List.mem_map.mp hx
          obtain ⟨j1, j2⟩ := fitL_le hj
          have s5 := s4.trans (Same.new hD2 (.lst ys))
          refine ⟨_, rfl, _, rfl, l, j, by rw [Int.zero_add]; rfl, by omega, by omega, _, rfl, 1, rfl, C, _, _, .ref b, rfl, rfl, SqL.of (s5 _ _ hC3), atL, _, rfl, _, rfl, _, _, rfl, rfl, b, _, _, .int (bI m h (l - j)), rfl, rfl, SqL.of (s5 _ _ hb3), ?_, _, _, rfl, rfl, mulT (chs_small (by omega) (by omega)).1 (chs_small (by omega) (by omega)).2, hQ⟩
          rw [ix j j2]
          exact atI_nat (brL_at (by omega))
        rw [prodV_map]
        refine ⟨D2, (fitL m h l).map fun j => chs l j * bI m h (l - j), rfl, SqL.of upd_same, ?_⟩
        rw [bI_sum]
        have hR5 := Same.new hD2 (.lst (((fitL m h l).map fun j => chs l j * bI m h (l - j)).map V.int)) _ _ hR4
        refine ⟨R, _, _, rfl, rfl, hR5, by rw [List.length_map, List.length_range]; omega, ?_⟩
        refine ⟨_, _, rfl, ((s3.trans s4).trans (Same.new hD2 _)).upd hR hR5 _, ?_⟩
        rw [upd_same, List.range_succ, List.map_append]
        rfl
      · rintro σ' H3 ⟨y6, y7, rfl, s3, h3⟩
        exact hU _ _ ⟨_, _, rfl, s3, h3⟩
    rintro σ' H3 ⟨y6, y7, rfl, s3, h3⟩
    have hC3 := s3 _ _ h2
    refine ⟨_, rfl, .inl ⟨rfl, _, SqL.of hC3⟩, _, rfl, C, _, _, rfl, rfl, hC3, by rw [List.length_append, hrl]; show h + 1 < sizeLine; omega, ?_⟩
    refine ⟨_, _, _, _, rs ++ [.ref b], R, rfl, (sm.trans s3).upd hC hC3 _, upd_same, by rw [List.length_append, hrl]; rfl, hRC, ?_⟩
    rw [upd_ne hRC]; exact h3
  · rintro σ' H2 ⟨x4, x5, x6, x7, rs, b, rfl, sm, h2, hrl, hbC, hb⟩
    exact ⟨_, rfl, 1, rfl, C, _, _, .ref b, rfl, rfl, SqL.of h2, atI_last, _, rfl, b, _, _, .int (bI m S N), rfl, rfl, SqL.of hb, atI_nat (brL_at (Nat.le_refl _)), q H2 sm⟩
end S51
set_option Elab.async false
set_option linter.all false
set_option maxRecDepth 100000
set_option exponentiation.threshold 5000
namespace S51
open PySem L2 SC PyProof.Rows S41 S40 S51
theorem sc_law : FnScope ["_law_script", "_law_k", "_law_more", "_law_size", "_law_most", "_law_many", "_law_heights_here", "_law_whole", "_law_great", "_law_keys", "_law_found", "_law_at", "_law_one", "_law_other"] ["_law_script"] (defScope (top 35)) := ⟨rfl, rfl, rfl, by decide +kernel, rfl, by decide +kernel, by decide +kernel⟩
theorem v_law : Vs ["_law_script", "_law_k", "_law_more", "_law_size", "_law_most", "_law_many", "_law_heights_here", "_law_whole", "_law_great", "_law_keys", "_law_found", "_law_at", "_law_one", "_law_other"] (defScope (top 35)) := Vs.of (by decide +kernel)
theorem l_law : Ls ["_law_script", "_law_k", "_law_more", "_law_size", "_law_most", "_law_many", "_law_heights_here", "_law_whole", "_law_great", "_law_keys", "_law_found", "_law_at", "_law_one", "_law_other"] (defScope (top 35)) := Ls.of sc_law.nd (by decide +kernel)
theorem g_law : Gs ["range", "max", "min", "len", "_law_drawn", "_law_cell", "_law_heights", "_law_power", "_law_told", "_law_fraction", "sum", "enumerate", "sorted", "_law_bounded"] (defScope (top 35)) := Gs.of (by decide +kernel)
theorem ok_law {P : Program} {w : World} {K : PySem.W.Frag} {mg : Str → Option Value} {base : Heap} {f : Addr} {fd : FuncData} {cl : CN → Addr} (F : Fun K "law" "law" (top 35) f fd) (T : Tx K mg cl) (O__law_cell : Own P w K mg base true 1 "_law_cell" ["_law_script", "_law_k"] (spCell K)) (O__law_drawn : Own P w K mg base true 1 "_law_drawn" ["_law_cell_here", "_law_k"] (spDrawn)) (O__law_told : Own P w K mg base true 6 "_law_told" ["_law_way", "_law_size", "_law_many"] (spToldM)) (O__law_fraction : Own P w K mg base true 1 "_law_fraction" ["_law_top", "_law_under"] (spFrac)) (O__law_power : Own P w K mg base true 1 "_law_power" ["_law_size", "_law_many"] (spPow)) (O__law_heights : Own P w K mg base true 2 "_law_heights" ["_law_size", "_law_many"] (spHeights)) (O__law_bounded : Own P w K mg base true 2 "_law_bounded" ["_law_size", "_law_many", "_law_most"] (spBounded)) :
    FnOk P w K mg base (CX1 P w) true 7 f fd ["_law_script"] (spLaw K) := by
  have S := sc_law
  have Vv := v_law
  have Lo := l_law
  have Gg := g_law
  refine F.ok S (fun vs H Q E h => ?_) (fun cdv A outer s H vs Q E hx hcx hh hr D h => ?_)
  · obtain ⟨a, ns, rfl, _⟩ := h; rfl
  obtain ⟨a, ns, rfl, hS, hlen, q⟩ := h
  have hp := passesXE (E := E) D
  refine ⟨_, (pss_cons (ps_for hp (iR1 (i := 0) Gg T.nrange (pa_cons (cB (i := 1) Gg (call_max2 rfl) T.nmax bt_max (pa_cons pe_int (pa_cons (cB (i := 2) Gg (call_min2 rfl) T.nmin bt_min (pa_cons pe_int (pa_cons (cB (i := 3) Gg (call_len_seq) T.nlen bt_len (pa_cons (vn Vv 0) pa_nil)) pa_nil))) pa_nil))) pa_nil)) (tgt_v (i := 1) Lo)
    (pss_cons (set_v (i := 2) Lo (cOwn (i := 4) Gg O__law_drawn (hr.mono (by decide)) passX (pa_cons (cOwn (i := 5) Gg O__law_cell (hr.mono (by decide)) passX (pa_cons (vn Vv 0) (pa_cons (vn Vv 1) pa_nil))) (pa_cons (vn Vv 1) pa_nil))))
    (pss_cons (ps_asg (pe_ix ix_list (pe_lst (pa_cons (pe_tup (pa_cons pe_int (pa_cons pe_int pa_nil))) (pa_cons (pe_tup (pa_cons pe_int (pa_cons pe_int pa_nil))) (pa_cons (pe_tup (pa_cons pe_int (pa_cons pe_int pa_nil))) (pa_cons (pe_tup (pa_cons pe_int (pa_cons pe_int pa_nil))) (pa_cons (pe_tup (pa_cons pe_int (pa_cons pe_int pa_nil))) (pa_cons (pe_tup (pa_cons pe_int (pa_cons pe_int pa_nil))) (pa_cons (pe_tup (pa_cons pe_int (pa_cons pe_int pa_nil))) pa_nil)))))))) (pe_op op_mod (vn Vv 2) pe_int) (fun _ _ => rfl)) (pg_tup rfl (pgs_cons (tgt_v (i := 3) Lo) (pgs_cons (tgt_v (i := 4) Lo) pgs_nil))))
    (pss_cons (set_v (i := 5) Lo (pe_op op_mod (pe_op op_fdivA (vn Vv 2) pe_int) (pe_op op_add (vn Vv 4) pe_int)))
    (pss_cons (set_v (i := 6) Lo (cOwn (i := 6) Gg O__law_heights (hr.mono (by decide)) passX (pa_cons (vn Vv 3) (pa_cons (vn Vv 5) pa_nil))))
    (pss_cons (set_v (i := 7) Lo (cOwn (i := 7) Gg O__law_power (hr.mono (by decide)) passX (pa_cons (vn Vv 3) (pa_cons (vn Vv 5) pa_nil))))
    (pss_cons (ps_if (pt_cmpR (op_neL hr.units0) (cOwn (i := 8) Gg O__law_told (hr.mono (by decide)) passX (pa_cons pe_int (pa_cons (vn Vv 3) (pa_cons (vn Vv 5) pa_nil)))) (cmp (Nc := ["_law_n", "_law_heights_here"]) (caps := [none, some 6]) (j := 0) (N := ["_law_script", "_law_k", "_law_more", "_law_size", "_law_most", "_law_many", "_law_heights_here", "_law_whole", "_law_great", "_law_keys", "_law_found", "_law_at", "_law_one", "_law_other"]) (sc := defScope (top 35)) (Lc := ["sum"]) ⟨rfl, by decide +kernel, by decide +kernel, by decide +kernel, rfl, by decide +kernel, by decide +kernel, rfl, rfl, by decide +kernel⟩ (iR1 (i := 0) Gg T.nrange (pa_cons (pe_op op_add (vn Vv 5) pe_int) pa_nil)) (fun _ _ _ _ _ _ Vv Gg => pf_nil) (fun _ _ _ _ _ _ Vv Gg => (cB (i := 0) Gg (call_sumK (K := K) rfl) T.nsum bt_sum (pa_cons (pe_slice (sl_listK (K := K) rfl) (vn Vv 1) po_none (po_some (pe_op op_add (vn Vv 0) pe_int))) pa_nil)))) (nomark _)) (pss_one (ps_ret pe_bl)) pss_nil)
    (pss_cons (ps_if (pt_cmpR (op_neT hr.units0) (cOwn (i := 8) Gg O__law_told (hr.mono (by decide)) passX (pa_cons pe_int (pa_cons (vn Vv 3) (pa_cons (vn Vv 5) pa_nil)))) (cOwn (i := 9) Gg O__law_fraction (hr.mono (by decide)) passX (pa_cons (cB (i := 10) Gg (call_sum) T.nsum bt_sum (pa_cons (cmpT (Nc := ["_law_n", "_law_count"]) (caps := [none, none]) (N := ["_law_script", "_law_k", "_law_more", "_law_size", "_law_most", "_law_many", "_law_heights_here", "_law_whole", "_law_great", "_law_keys", "_law_found", "_law_at", "_law_one", "_law_other"]) (sc := defScope (top 35)) (Lc := []) ⟨rfl, by decide +kernel, by decide +kernel, by decide +kernel, rfl, by decide +kernel, by decide +kernel⟩ (iEn (i := 11) Gg T.nenumerate (pa_cons (vn Vv 6) pa_nil)) (fun _ _ _ _ _ _ Vv Gg => pf_nil) (fun _ _ _ _ _ _ Vv Gg => (pe_op op_mulA (vn Vv 0) (vn Vv 1)))) pa_nil)) (pa_cons (vn Vv 7) pa_nil))) (nomark _)) (pss_one (ps_ret pe_bl)) pss_nil)
    (pss_cons (set_v (i := 8) Lo (pe_op op_add pe_int (pe_op op_mod (pe_op op_fdivA (vn Vv 2) pe_int) pe_int)))
    (pss_cons (set_v (i := 9) Lo (pe_op op_mod (pe_op op_fdivA (vn Vv 2) pe_int) pe_int))
    (pss_cons (set_v (i := 10) Lo (cOwn (i := 8) Gg O__law_told (hr.mono (by decide)) passX (pa_cons pe_int (pa_cons (vn Vv 8) (pa_cons (vn Vv 9) pa_nil)))))
    (pss_cons (set_v (i := 7) Lo (cOwn (i := 7) Gg O__law_power (hr.mono (by decide)) passX (pa_cons (vn Vv 8) (pa_cons (vn Vv 9) pa_nil))))
    (pss_cons (ps_if (PW.pt (pw_or (pt_cmpR op_ne (cB (i := 3) Gg (call_len_seq) T.nlen bt_len (pa_cons (vn Vv 10) pa_nil)) (pe_op op_add (vn Vv 9) pe_int) (nomark _)) (pw_or (pt_cmpR (op_neL hr.units0) (vn Vv 10) (cB (i := 12) Gg (call_sorted) T.nsorted bt_sorted (pa_cons (vn Vv 10) pa_nil)) (nomark _)) (pw_or (pt_cmpR op_ne (pe_ix ix_list (vn Vv 10) (pe_un un_neg pe_int) (fun _ _ => rfl)) (vn Vv 7) (nomark _)) (pw_or1 (pt_cmpR op_ne (pe_cmpR op_gt (pe_ix ix_list (vn Vv 10) pe_int (fun _ _ => rfl)) pe_int (nomark _)) (pe_cmpR op_eq (vn Vv 9) pe_int (nomark _)) (nomark _))))))) (pss_one (ps_ret pe_bl)) pss_nil)
    (pss_cons (set_v (i := 11) Lo (pe_op op_mod (pe_op op_fdivA (vn Vv 2) (pe_op op_pow pe_int pe_int)) (pe_op op_add (cB (i := 2) Gg (call_min2 rfl) T.nmin bt_min (pa_cons (vn Vv 9) (pa_cons pe_int pa_nil))) pe_int)))
    (pss_cons (ps_if (pt_cmpR op_ne (pe_ix ix_list (vn Vv 10) (vn Vv 11) (fun _ _ => rfl)) (cOwn (i := 13) Gg O__law_bounded (hr.mono (by decide)) passX (pa_cons (vn Vv 8) (pa_cons (vn Vv 9) (pa_cons (vn Vv 11) pa_nil)))) (nomark _)) (pss_one (ps_ret pe_bl)) pss_nil)
    (pss_cons (ps_if (pt_cmpR (op_neT hr.units0) (cOwn (i := 8) Gg O__law_told (hr.mono (by decide)) passX (pa_cons pe_int (pa_cons (vn Vv 8) (pa_cons (vn Vv 9) pa_nil)))) (cOwn (i := 9) Gg O__law_fraction (hr.mono (by decide)) passX (pa_cons (cB (i := 10) Gg (call_sum) T.nsum bt_sum (pa_cons (cmp (Nc := ["_law_one", "_law_whole"]) (caps := [none, some 7]) (j := 0) (N := ["_law_script", "_law_k", "_law_more", "_law_size", "_law_most", "_law_many", "_law_heights_here", "_law_whole", "_law_great", "_law_keys", "_law_found", "_law_at", "_law_one", "_law_other"]) (sc := defScope (top 35)) (Lc := []) ⟨rfl, by decide +kernel, by decide +kernel, by decide +kernel, rfl, by decide +kernel, by decide +kernel, rfl, rfl, by decide +kernel⟩ (pi_list (vn Vv 10)) (fun _ _ _ _ _ _ Vv Gg => pf_nil) (fun _ _ _ _ _ _ Vv Gg => (pe_op op_sub (vn Vv 1) (vn Vv 0)))) pa_nil)) (pa_cons (vn Vv 7) pa_nil))) (nomark _)) (pss_one (ps_ret pe_bl)) pss_nil)
    (pss_cons (ps_asg (pe_ix ix_list (pe_lst (pa_cons (pe_tup (pa_cons pe_int (pa_cons pe_int pa_nil))) (pa_cons (pe_tup (pa_cons pe_int (pa_cons pe_int pa_nil))) (pa_cons (pe_tup (pa_cons pe_int (pa_cons pe_int pa_nil))) (pa_cons (pe_tup (pa_cons pe_int (pa_cons (pe_un un_neg pe_int) pa_nil))) (pa_cons (pe_tup (pa_cons pe_bl (pa_cons pe_int pa_nil))) (pa_cons (pe_tup (pa_cons pe_int (pa_cons pe_non pa_nil))) pa_nil))))))) (pe_op op_mod (pe_op op_fdivA (vn Vv 2) (pe_op op_pow pe_int pe_int)) pe_int) (fun _ _ => rfl)) (pg_tup rfl (pgs_cons (tgt_v (i := 12) Lo) (pgs_cons (tgt_v (i := 13) Lo) pgs_nil))))
    (pss_one (ps_if (pt_cmpR (op_neL hr.units0) (cmp (Nc := ["_law_way", "_law_one", "_law_other"]) (caps := [none, some 12, some 13]) (j := 0) (N := ["_law_script", "_law_k", "_law_more", "_law_size", "_law_most", "_law_many", "_law_heights_here", "_law_whole", "_law_great", "_law_keys", "_law_found", "_law_at", "_law_one", "_law_other"]) (sc := defScope (top 35)) (Lc := ["_law_told"]) ⟨rfl, by decide +kernel, by decide +kernel, by decide +kernel, rfl, by decide +kernel, by decide +kernel, rfl, rfl, by decide +kernel⟩ (iR1 (i := 0) Gg T.nrange (pa_cons pe_int pa_nil)) (fun _ _ _ _ _ _ Vv Gg => pf_nil) (fun _ _ _ _ _ _ Vv Gg => (cOwn (i := 0) Gg O__law_told (hr.mono (by decide)) passN (pa_cons (vn Vv 0) (pa_cons (vn Vv 1) (pa_cons (vn Vv 2) pa_nil)))))) (pe_lst (pa_cons pe_str (pa_cons pe_str pa_nil))) (nomark _)) (pss_one (ps_ret pe_bl)) pss_nil)))))))))))))))))))
    (pss_one (ps_ret pe_bl))), ?_⟩
  have hz : 100000 < sizeLine := by decide
  obtain ⟨J0, J1⟩ := rngN ((ns.map V.int).length : Nat) 2 (by omega) (by omega)
  refine ⟨_, rfl, a, _, rfl, .inl hS, 2, _, rfl, 1, _, rfl, _, rfl, (by omega), (by omega), ?_⟩
  generalize (if (if (((ns.map V.int).length : Nat) : Int) < 2 then (((ns.map V.int).length : Nat) : Int) else 2) > 1 then (if (((ns.map V.int).length : Nat) : Int) < 2 then (((ns.map V.int).length : Nat) : Int) else 2) else 1) = J at J0 J1
  refine for_range (n := J.toNat) (fun i σ H2 => ∃ v1 v2 v3 v4 v5 v6 v7 v8 v9 v10 v11 v12 v13, σ = [some (.ref a), v1, v2, v3, v4, v5, v6, v7, v8, v9, v10, v11, v12, v13] ∧ Same H H2) ⟨_, _, _, _, _, _, _, _, _, _, _, _, _, rfl, Same.refl H⟩ (fun i σ H2 hi ⟨v1, v2, v3, v4, v5, v6, v7, v8, v9, v10, v11, v12, v13, e1, sH⟩ => ?_) (fun σ H2 _ => q H2)
  subst e1
  refine ⟨_, rfl, _, rfl, a, ns, 0 + (i : Int), rfl, sH.seq hS, hlen, ⟨by omega, by omega⟩, fun c H3 s3 => ⟨_, rfl, c, 0 + (i : Int), rfl, fun m m0 m1 => ?_⟩⟩
  show tSeq Ends.nx _ _ _ _
  refine seq_nx ?_
  refine seq_pairsT sizes7 ?hp1 (by decide) fun vs l H5 s5' hl5' pv => ?_
  case hp1 => exact (.cons (fun _ _ q => q) (fun _ _ q => q) (.cons (fun _ _ q => q) (fun _ _ q => q) (.cons (fun _ _ q => q) (fun _ _ q => q) (.cons (fun _ _ q => q) (fun _ _ q => q) (.cons (fun _ _ q => q) (fun _ _ q => q) (.cons (fun _ _ q => q) (fun _ _ q => q) (.cons (fun _ _ q => q) (fun _ _ q => q) .nil)))))))
  obtain ⟨i0, hi0, ei0⟩ := pickI m (n := 7) (by decide)
  obtain ⟨s', mo, ec, es⟩ := size7_of hi0
  obtain ⟨t, ht, hht⟩ := pv.2 i0 _ es
  have eat : atI vs (m % 7) = some (.ref t) := by rw [show (m % 7 : Int) = (i0 : Int) from ei0]; exact atI_nat ht
  have s5 := sH.trans (s3.trans s5')
  refine ⟨_, rfl, _, _, rfl, rfl, posJ (by decide), l, _, _, .ref t, rfl, rfl, SqL.of hl5', eat, t, _, rfl, SqT.of hht, rfl, _, _, rfl, _, _, rfl, rfl, ?_⟩
  obtain ⟨k, hk1, hk2⟩ := pickI (m / 8) (n := mo + 1) (by omega)
  have ek : m / 8 % ((mo : Int) + 1) = (k : Int) := hk2
  obtain ⟨s2, s21, k24, hw, chk⟩ := combo7_ok ec (k := k) (by omega)
  have hwp : 0 < s' ^ k := Nat.pow_pos (by omega)
  refine seq_cut (fun σ' H' => σ' = [some (.ref a), some (.int (0 + (i : Int))), some (.int m), some (.int s'), some (.int mo), some (.int k), v6, v7, v8, v9, v10, v11, v12, v13] ∧ H' = H5) (fun U hU => ⟨_, rfl, _, _, rfl, rfl, divC (by decide) (by decide), _, rfl, _, _, rfl, rfl, _, _, rfl, rfl, posJ (by omega), hU _ _ ⟨by rw [← ek]; rfl, rfl⟩⟩) ?_
  rintro σ' H5' ⟨rfl, rfl⟩
  refine seq_cut (fun σ' H' => ∃ L, σ' = [some (.ref a), some (.int (0 + (i : Int))), some (.int m), some (.int s'), some (.int mo), some (.int k), some (.ref L), v7, v8, v9, v10, v11, v12, v13] ∧ Same H H' ∧ H' L = some (.lst (hgtL s' k (s' ^ k)))) (fun U hU => ⟨_, rfl, _, rfl, s', k, rfl, s2, by omega, by omega, hw, fun L H' sm hL => hU _ _ ⟨L, rfl, s5.trans sm, hL⟩⟩) ?_
  rintro σ' H6 ⟨L, rfl, s6, hL⟩
  refine seq_cut (fun σ' H' => σ' = [some (.ref a), some (.int (0 + (i : Int))), some (.int m), some (.int s'), some (.int mo), some (.int k), some (.ref L), some (.int (s' ^ k : Nat)), v8, v9, v10, v11, v12, v13] ∧ H' = H6) (fun U hU => ⟨_, rfl, _, rfl, s', k, rfl, ⟨by omega, by omega⟩, ⟨by omega, by omega⟩, hU _ _ ⟨by rw [Int.toNat_natCast, ← Int.natCast_pow]; rfl, rfl⟩⟩) ?_
  rintro σ' H6' ⟨rfl, rfl⟩
  have okk : okLong (.int s') (.int k) = true := by unfold okLong; rw [wholeV_int (by omega) (by omega), wholeV_int (by omega) (by omega)]; rfl
  refine seq_cut (fun σ' H' => σ' = [some (.ref a), some (.int (0 + (i : Int))), some (.int m), some (.int s'), some (.int mo), some (.int k), some (.ref L), some (.int (s' ^ k : Nat)), v8, v9, v10, v11, v12, v13] ∧ Same H6' H') (fun U hU => ?_) ?_
  · refine ⟨_, rfl, _, rfl, 0, .int s', .int k, .int, .int, rfl, by decide, .int _, .int _, itp okk ?_⟩
    intro s1 k1 es1 ek1 _
    have e1 : s1 = s' := by have := V.int.inj es1; omega
    have e2 : k1 = k := by have := V.int.inj ek1; omega
    subst e1 e2
    refine ⟨s21, k24, itp rfl fun p H7 s7 hp => ?_⟩
    refine ⟨_, rfl, _, _, rfl, rfl, (k1 : Int) + 1, rfl, by omega, by omega, fun D hD => ?_⟩
    rw [show ((k1 : Int) + 1).toNat = k1 + 1 by omega]
    refine comp_rangeG (fun n v => v = .int (cI n k1 s1)) hD (by omega) (fun n ys H8 Q' hn s8 _ hQ => ?_) ?_
    · have hL8 := s8 _ _ (s7 _ _ hL)
      refine ⟨_, rfl, _, rfl, _, _, rfl, rfl, 0 + (n : Int) + 1, rfl, L, _, rfl, SqL.of hL8, fun p2 h2 => ?_⟩
      have ecut : cutV (hgtL s1 k1 (s1 ^ k1)) none (some (0 + (n : Int) + 1)) = ((List.range (n + 1)).map fun d => ((hc s1 k1 d (s1 ^ k1) : Nat) : Int)).map V.int := by
        rw [show (0 + (n : Int) + 1) = ((n + 1 : Nat) : Int) by omega, cut_take _ _ (by rw [hgtL_len]; omega), hgtL_take (by omega)]
      rw [ecut]
      refine ⟨p2, _, rfl, SqL.of upd_same, hQ _ _ ?_ (Same.new h2 _)⟩
      rw [sum_ints (fun d => hc s1 k1 d (s1 ^ k1)), hc_sum chk n (by omega)]
    · intro H8 ys s8 hD8 hyl hR
      have eys : ys = longL s1 k1 := by
        refine List.ext_getElem? fun n => ?_
        by_cases cn : n < k1 + 1
        · rw [longL_at (by omega)]
          have e : ys[n]? = some ys[n] := List.getElem?_eq_getElem (by omega)
          rw [e, hR n _ e]
        · rw [List.getElem?_eq_none (by omega), List.getElem?_eq_none (by rw [longL_len]; omega)]
      rw [eys] at hD8
      refine ⟨p, D, _, _, rfl, rfl, SqL.of (s8 _ _ hp), SqL.of hD8, longL_flat _ _, longL_flat _ _, _, rfl, ?_⟩
      rw [eqVs_reflL (longL_flat _ _)]
      exact iteF (hU _ _ ⟨rfl, s7.trans s8⟩)
  rintro σ' H7 ⟨rfl, s7⟩
  have hL7 := s7 _ _ hL
  refine seq_cut (fun σ' H' => σ' = [some (.ref a), some (.int (0 + (i : Int))), some (.int m), some (.int s'), some (.int mo), some (.int k), some (.ref L), some (.int (s' ^ k : Nat)), v8, v9, v10, v11, v12, v13] ∧ Same H7 H') (fun U hU => ?_) ?_
  · refine ⟨_, rfl, _, rfl, 1, .int s', .int k, .int, .int, rfl, by decide, .int _, .int _, itp okk ?_⟩
    intro s1 k1 es1 ek1 _
    have e1 : s1 = s' := by have := V.int.inj es1; omega
    have e2 : k1 = k := by have := V.int.inj ek1; omega
    subst e1 e2
    refine ⟨s21, k24, itn (by decide) fun x H8 s8 px => ?_⟩
    have hL8 := s8 _ _ hL7
    refine ⟨_, rfl, L, rfl, ⟨_, SqL.of hL8⟩, fun D2 hD2 => comp_enum (xs := hgtL s1 k1 (s1 ^ k1)) (fun d => .int ((d * hc s1 k1 d (s1 ^ k1) : Nat) : Int)) (fun _ => true) (SqL.of hL8) hD2 (by rw [hgtL_len]; omega) (fun d x H2 Q' hx sm q' => q') ?_ ?_⟩
    · intro d x H2 Q' hx _ sm hQ
      have hd' : d ≤ k1 := by
        have := (List.getElem?_eq_some_iff.mp hx).1
        rw [hgtL_len] at this; omega
      rw [hgtL_at hd'] at hx
      cases hx
      exact ⟨_, rfl, _, rfl, _, _, rfl, rfl, mulD (by omega) (by omega), hQ⟩
    intro H9 s9 hD9
    rw [hgtL_len, List.filter_eq_self.mpr (fun _ _ => rfl)] at hD9
    have htog : ((List.range (k1 + 1)).map fun d => ((d * hc s1 k1 d (s1 ^ k1) : Nat) : Int)).sum = ((above s1 k1 : Nat) : Int) := by
      rw [sum_ints (fun d => d * hc s1 k1 d (s1 ^ k1)), hc_above chk s21 k24]
    refine ⟨D2, (List.range (k1 + 1)).map fun d => ((d * hc s1 k1 d (s1 ^ k1) : Nat) : Int), rfl, SqL.of (by rw [hD9, List.map_map]; rfl), ?_⟩
    rw [htog]
    refine ⟨_, rfl, above s1 k1, s1 ^ k1, rfl, hwp, pow_big s21 k24, fun y H10 s10 py => ?_⟩
    obtain ⟨q1, rfl, hq1⟩ := (px.same s9).same s10
    obtain ⟨q2, rfl, hq2⟩ := py
    refine ⟨q1, q2, _, _, rfl, rfl, SqT.of hq1, SqT.of hq2, rfl, rfl, _, rfl, ?_⟩
    rw [show meanF s1 k1 = red (above s1 k1) (s1 ^ k1) from rfl, eqVs_pair]
    exact iteF (hU _ _ ⟨rfl, s8.trans (s9.trans s10)⟩)
  rintro σ' H8 ⟨rfl, s8⟩
  have sB := s6.trans (s7.trans s8)
  clear s6 s7 s8 hL hL7 s5 s5' pv hht ht eat hl5'
  obtain ⟨g, eg, g2, g21⟩ : ∃ g : Nat, (2 + m / 64 % 20 : Int) = g ∧ 2 ≤ g ∧ g ≤ 21 := ⟨(2 + m / 64 % 20).toNat, by omega, by omega, by omega⟩
  obtain ⟨kk, ekk, kk24⟩ : ∃ k : Nat, (m / 4096 % 25 : Int) = k ∧ k ≤ 24 := ⟨(m / 4096 % 25).toNat, by omega, by omega⟩
  have hgp : 0 < g ^ kk := Nat.pow_pos (by omega)
  refine seq_cut (fun σ' H' => σ' = [some (.ref a), some (.int (0 + (i : Int))), some (.int m), some (.int s'), some (.int mo), some (.int k), some (.ref L), some (.int (s' ^ k : Nat)), some (.int g), v9, v10, v11, v12, v13] ∧ H' = H8) (fun U hU => ⟨_, rfl, _, _, rfl, rfl, divC (by decide) (by decide), _, _, rfl, rfl, posJ (by decide), _, _, rfl, rfl, hU _ _ ⟨by rw [← eg]; rfl, rfl⟩⟩) ?_
  rintro σ' H8' ⟨rfl, rfl⟩
  refine seq_cut (fun σ' H' => σ' = [some (.ref a), some (.int (0 + (i : Int))), some (.int m), some (.int s'), some (.int mo), some (.int k), some (.ref L), some (.int (s' ^ k : Nat)), some (.int g), some (.int kk), v10, v11, v12, v13] ∧ H' = H8') (fun U hU => ⟨_, rfl, _, _, rfl, rfl, divC (by decide) (by decide), _, _, rfl, rfl, posJ (by decide), hU _ _ ⟨by rw [← ekk]; rfl, rfl⟩⟩) ?_
  rintro σ' H8'' ⟨rfl, rfl⟩
  have okg : okLong (.int g) (.int kk) = true := by unfold okLong; rw [wholeV_int (by omega) (by omega), wholeV_int (by omega) (by omega)]; rfl
  refine seq_cut (fun σ' H' => ∃ F, σ' = [some (.ref a), some (.int (0 + (i : Int))), some (.int m), some (.int s'), some (.int mo), some (.int k), some (.ref L), some (.int (s' ^ k : Nat)), some (.int g), some (.int kk), some (.ref F), v11, v12, v13] ∧ Same H H' ∧ H' F = some (.lst (longL g kk))) (fun U hU => ?_) ?_
  · refine ⟨_, rfl, _, rfl, 0, .int g, .int kk, .int, .int, rfl, by decide, .int _, .int _, itp okg ?_⟩
    intro s1 k1 es1 ek1 _
    have e1 : s1 = g := by have := V.int.inj es1; omega
    have e2 : k1 = kk := by have := V.int.inj ek1; omega
    subst e1 e2
    exact ⟨g21, kk24, itp rfl fun p H7 s7 hp => hU _ _ ⟨p, rfl, sB.trans s7, hp⟩⟩
  rintro σ' H9 ⟨F, rfl, s9, hF⟩
  refine seq_cut (fun σ' H' => σ' = [some (.ref a), some (.int (0 + (i : Int))), some (.int m), some (.int s'), some (.int mo), some (.int k), some (.ref L), some (.int (g ^ kk : Nat)), some (.int g), some (.int kk), some (.ref F), v11, v12, v13] ∧ H' = H9) (fun U hU => ⟨_, rfl, _, rfl, g, kk, rfl, ⟨by omega, by omega⟩, ⟨by omega, by omega⟩, hU _ _ ⟨by rw [Int.toNat_natCast, ← Int.natCast_pow]; rfl, rfl⟩⟩) ?_
  rintro σ' H9' ⟨rfl, rfl⟩
  have eints := longL_ints g kk
  refine seq_cut (fun σ' H' => σ' = [some (.ref a), some (.int (0 + (i : Int))), some (.int m), some (.int s'), some (.int mo), some (.int k), some (.ref L), some (.int (g ^ kk : Nat)), some (.int g), some (.int kk), some (.ref F), v11, v12, v13] ∧ Same H9' H') (fun U hU => ?_) ?_
  · refine ⟨_, rfl, F, _, rfl, .inl (SqL.of hF), _, rfl, _, _, rfl, rfl, rfl, _, rfl, iteNS (by rw [longL_len]; rfl) ?_⟩
    refine ⟨_, rfl, _, rfl, F, _, rfl, SqL.of (by rw [hF, eints]), by rw [List.length_map, List.length_range]; omega, fun l2 ns' hl2 pm pw => ?_⟩
    have e9 := sorted_eqI pw (long_sorted g21 kk24) pm
    subst e9
    rw [← eints]
    have s10 := Same.new hl2 (.lst (longL g kk))
    refine ⟨F, l2, _, _, rfl, rfl, SqL.of (s10 _ _ hF), SqL.of upd_same, longL_flat _ _, longL_flat _ _, _, rfl, ?_⟩
    rw [eqVs_reflL (longL_flat _ _)]
    refine iteF ?_
    refine ⟨_, rfl, 1, rfl, F, _, _, _, rfl, rfl, SqL.of (s10 _ _ hF), long_last g21 kk24, _, rfl, rfl, _, rfl, iteNS rfl ?_⟩
    refine ⟨_, rfl, F, _, _, .int (cI 0 kk g), rfl, rfl, SqL.of (s10 _ _ hF), atI_nat (j := 0) (longL_at (Nat.zero_le _)), _, _, rfl, rfl, _, rfl, rfl, rfl, _, rfl, iteNS ?_ (hU _ _ ⟨rfl, s10⟩)⟩
    show V.bl (decide ((0 : Int) < cI 0 kk g)) = _
    cases kk with
    | zero => rfl
    | succ kk =>
      rw [cI_none, decide_eq_false (by decide), decide_eq_false (fun w => by have := V.int.inj w; omega)]
  rintro σ' H10 ⟨rfl, s10⟩
  have s11 := s9.trans s10
  have hF10 := s10 _ _ hF
  obtain ⟨at', eat', hat1⟩ : ∃ t : Nat, m / 2 ^ 20 % ((if (9 : Int) < (kk : Int) then 9 else (kk : Int)) + 1) = (t : Int) ∧ t ≤ kk ∧ t ≤ 9 := by
    obtain ⟨t, ht1, ht2⟩ := pickI (m / 2 ^ 20) (n := min kk 9 + 1) (by omega)
    refine ⟨t, ?_, by omega, by omega⟩
    have e : (if (9 : Int) < (kk : Int) then 9 else (kk : Int)) + 1 = ((min kk 9 + 1 : Nat) : Int) := by
      by_cases c : 9 < kk
      · rw [if_pos (by omega)]; omega
      · rw [if_neg (by omega)]; omega
    rw [e]
    exact ht2
  obtain ⟨hat1, hat9⟩ := hat1
  refine seq_cut (fun σ' H' => σ' = [some (.ref a), some (.int (0 + (i : Int))), some (.int m), some (.int s'), some (.int mo), some (.int k), some (.ref L), some (.int (g ^ kk : Nat)), some (.int g), some (.int kk), some (.ref F), some (.int at'), v12, v13] ∧ H' = H10) (fun U hU => ?_) ?_
  · refine ⟨_, rfl, _, _, rfl, rfl, cpwL (by decide) (by decide), _, _, rfl, rfl, divC (by decide) (by decide), _, rfl, (kk : Int), 9, rfl, _, _, rfl, rfl, _, _, rfl, rfl, posJ ?_, hU _ _ ⟨by rw [← eat']; rfl, rfl⟩⟩
    show 0 < (if (9 : Int) < (kk : Int) then 9 else (kk : Int)) + 1
    split <;> omega
  rintro σ' H10' ⟨rfl, rfl⟩
  refine seq_cut (fun σ' H' => σ' = [some (.ref a), some (.int (0 + (i : Int))), some (.int m), some (.int s'), some (.int mo), some (.int k), some (.ref L), some (.int (g ^ kk : Nat)), some (.int g), some (.int kk), some (.ref F), some (.int at'), v12, v13] ∧ Same H10' H') (fun U hU => ?_) ?_
  · refine ⟨_, rfl, _, rfl, F, _, _, .int (cI at' kk g), rfl, rfl, SqL.of hF10, atI_nat (longL_at hat1), _, rfl, _, rfl, _, rfl, g, kk, at', rfl, by omega, kk24, by omega, fun H' s' => ⟨rfl, _, rfl, iteNS ?_ (hU _ _ ⟨rfl, s'⟩)⟩⟩
    rw [bI_eq hat9 kk24 g21]
  rintro σ' H11 ⟨rfl, s12⟩
  have hF11 := s12 _ _ hF10
  have s13 := s11.trans s12
  refine seq_cut (fun σ' H' => σ' = [some (.ref a), some (.int (0 + (i : Int))), some (.int m), some (.int s'), some (.int mo), some (.int k), some (.ref L), some (.int (g ^ kk : Nat)), some (.int g), some (.int kk), some (.ref F), some (.int at'), v12, v13] ∧ Same H11 H') (fun U hU => ?_) ?_
  · refine ⟨_, rfl, _, rfl, 1, .int g, .int kk, .int, .int, rfl, by decide, .int _, .int _, itp okg ?_⟩
    intro s1 k1 es1 ek1 _
    have e1 : s1 = g := by have := V.int.inj es1; omega
    have e2 : k1 = kk := by have := V.int.inj ek1; omega
    subst e1 e2
    refine ⟨g21, kk24, itn (by decide) fun x H12 s14 px => ?_⟩
    have hF12 := s14 _ _ hF11
    refine ⟨_, rfl, F, rfl, ⟨_, SqL.of hF12⟩, fun D hD => comp_list (xs := longL s1 k1) (subV ((s1 ^ k1 : Nat) : Int)) (SqL.of hF12) hD (by rw [longL_len]; omega) (fun x ys Q' hx hQ => ?_) ?_⟩
    · obtain ⟨n, _, rfl⟩ := longL_mem hx
      exact ⟨_, rfl, _, rfl, _, _, rfl, rfl, hQ⟩
    rw [subV_map]
    refine ⟨D, (List.range (k1 + 1)).map fun m => ((s1 ^ k1 : Nat) : Int) - cI m k1 s1, rfl, SqL.of upd_same, ?_⟩
    rw [SC.sum_list, ← above_eq g21 kk24]
    refine ⟨_, rfl, above s1 k1, s1 ^ k1, rfl, hgp, pow_big g21 kk24, fun y H13 s15 py => ?_⟩
    have s16 := (Same.new hD (.lst (((List.range (k1 + 1)).map fun m => ((s1 ^ k1 : Nat) : Int) - cI m k1 s1).map V.int))).trans s15
    obtain ⟨q1, rfl, hq1⟩ := px.same s16
    obtain ⟨q2, rfl, hq2⟩ := py
    refine ⟨q1, q2, _, _, rfl, rfl, SqT.of hq1, SqT.of hq2, rfl, rfl, _, rfl, ?_⟩
    rw [show meanF s1 k1 = red (above s1 k1) (s1 ^ k1) from rfl, eqVs_pair]
    exact iteF (hU _ _ ⟨rfl, s14.trans s16⟩)
  rintro σ' H12 ⟨rfl, s14⟩
  have s15 := s13.trans s14
  refine seq_pairsT odds6 ?hp2 (by decide) fun vs2 l2 H13 s16 hl2 pv2 => ?_
  case hp2 => exact (.cons (fun _ _ q => q) (fun _ _ q => q) (.cons (fun _ _ q => q) (fun _ _ q => q) (.cons (fun _ _ q => q) (fun _ _ q => q) (.cons (fun _ _ q => q) (fun _ _ q => ⟨_, rfl, q⟩) (.cons (fun _ _ q => q) (fun _ _ q => q) (.cons (fun _ _ q => q) (fun _ _ q => q) .nil))))))
  obtain ⟨i1, hi1, ei1⟩ := pickI (m / 2 ^ 24) (n := 6) (by decide)
  obtain ⟨⟨p1, p2⟩, eo, hno, kn1, kn2⟩ := odd6_of hi1
  obtain ⟨t2, ht2, hht2⟩ := pv2.2 i1 _ eo
  have eat2 : atI vs2 (m / 2 ^ 24 % 6) = some (.ref t2) := by rw [show (m / 2 ^ 24 % 6 : Int) = (i1 : Int) from ei1]; exact atI_nat ht2
  refine ⟨_, rfl, _, _, rfl, rfl, cpwL (by decide) (by decide), _, _, rfl, rfl, divC (by decide) (by decide), _, _, rfl, rfl, posJ (by decide), l2, _, _, .ref t2, rfl, rfl, SqL.of hl2, eat2, t2, _, rfl, SqT.of hht2, rfl, _, _, rfl, _, _, rfl, rfl, ?_⟩
  refine ⟨2, rfl, by decide, by decide, fun D3 hD3 => comp_rangeG (fun _ v => v = .str (nm 2)) hD3 (by decide) (fun w ys H2 Q' hw3 sm hys hQ => ?_) ?_⟩
  · obtain ⟨T1, k1⟩ := kn1 H2
    obtain ⟨T2, k2⟩ := kn2 H2
    refine ⟨_, rfl, _, rfl, _, rfl, 0 + w, p1, p2, T1, T2, rfl, by have : w < 2 := hw3; omega, k1, k2, itn (by rw [hno]; exact Bool.false_ne_true) fun H3' sm3 => hQ _ H3' rfl sm3⟩
  intro H14 ys s17 hys hly hR
  have eys : ys = [.str (nm 2), .str (nm 2)] := by
    match ys, hly with
    | [y0, y1], _ => rw [hR 0 y0 rfl, hR 1 y1 rfl]
  subst eys
  refine ⟨small (n := 2) (by decide), fun l3 hl3 => ?_⟩
  exact ⟨D3, l3, _, _, rfl, rfl, SqL.of (Same.new hl3 _ _ _ hys), SqL.of upd_same, rfl, rfl, _, rfl, iteF ⟨_, _, _, _, _, _, _, _, _, _, _, _, _, rfl, s15.trans (s16.trans (s17.trans (Same.new hl3 _)))⟩⟩
end S51
set_option Elab.async false
set_option linter.all false
set_option maxRecDepth 100000
set_option exponentiation.threshold 5000
namespace S51
open PySem L2 SC PyProof.Rows
set_option maxHeartbeats 0 in
theorem all_mk {l : PySem.W.OpenLaw} {w : World} {K : PySem.W.Frag} {h : Heap} {mg : Str → Option Value} {fa c_StrewError c_BadRule c_BadKey c_BadSize c_Full c_TooMany f_greatest_divisor f_fraction f_power f_is_whole f_check_size f_check_count f_choices f_counts_of_one_more f_scatterings_up_to f_longest f_mean_longest f__law_cell f__law_drawn f__law_word f__law_told f__law_fraction f__law_power f__law_heights f__law_chosen f__law_bounded f_law : Addr} (X : K.In h) (G : h.Ns mainGlobals mg) (hfa : mg "law" = some (.ref fa))
    {od_greatest_divisor an_greatest_divisor od_fraction an_fraction od_power an_power od_is_whole an_is_whole od_check_size an_check_size od_check_count an_check_count od_choices an_choices od_counts_of_one_more an_counts_of_one_more od_scatterings_up_to an_scatterings_up_to od_longest an_longest od_mean_longest an_mean_longest od__law_cell an__law_cell od__law_drawn an__law_drawn od__law_word an__law_word od__law_told an__law_told od__law_fraction an__law_fraction od__law_power an__law_power od__law_heights an__law_heights od__law_chosen an__law_chosen od__law_bounded an__law_bounded od_law an_law : Option Addr} {sl_greatest_divisor sl_fraction sl_power sl_is_whole sl_check_size sl_check_count sl_choices sl_counts_of_one_more sl_scatterings_up_to sl_longest sl_mean_longest sl__law_cell sl__law_drawn sl__law_word sl__law_told sl__law_fraction sl__law_power sl__law_heights sl__law_chosen sl__law_bounded sl_law : Array (Option Value)} {oc_greatest_divisor kV_greatest_divisor dc_greatest_divisor pm_greatest_divisor cd_greatest_divisor ct_greatest_divisor oc_fraction kV_fraction dc_fraction pm_fraction cd_fraction ct_fraction oc_power kV_power dc_power pm_power cd_power ct_power oc_is_whole kV_is_whole dc_is_whole pm_is_whole cd_is_whole ct_is_whole oc_check_size kV_check_size dc_check_size pm_check_size cd_check_size ct_check_size oc_check_count kV_check_count dc_check_count pm_check_count cd_check_count ct_check_count oc_choices kV_choices dc_choices pm_choices cd_choices ct_choices oc_counts_of_one_more kV_counts_of_one_more dc_counts_of_one_more pm_counts_of_one_more cd_counts_of_one_more ct_counts_of_one_more oc_scatterings_up_to kV_scatterings_up_to dc_scatterings_up_to pm_scatterings_up_to cd_scatterings_up_to ct_scatterings_up_to oc_longest kV_longest dc_longest pm_longest cd_longest ct_longest oc_mean_longest kV_mean_longest dc_mean_longest pm_mean_longest cd_mean_longest ct_mean_longest oc__law_cell kV__law_cell dc__law_cell pm__law_cell cd__law_cell ct__law_cell oc__law_drawn kV__law_drawn dc__law_drawn pm__law_drawn cd__law_drawn ct__law_drawn oc__law_word kV__law_word dc__law_word pm__law_word cd__law_word ct__law_word oc__law_told kV__law_told dc__law_told pm__law_told cd__law_told ct__law_told oc__law_fraction kV__law_fraction dc__law_fraction pm__law_fraction cd__law_fraction ct__law_fraction oc__law_power kV__law_power dc__law_power pm__law_power cd__law_power ct__law_power oc__law_heights kV__law_heights dc__law_heights pm__law_heights cd__law_heights ct__law_heights oc__law_chosen kV__law_chosen dc__law_chosen pm__law_chosen cd__law_chosen ct__law_chosen oc__law_bounded kV__law_bounded dc__law_bounded pm__law_bounded cd__law_bounded ct__law_bounded oc_law kV_law dc_law pm_law cd_law ct_law : Value} {t_LEAST_SIZE t_MOST_SIZE t_MOST_SCATTERED : Tok}
    (a_StrewError : PySem.W.nsIn K mainGlobals "StrewError" = some (some (.ref c_StrewError)))
    (a_BadRule : PySem.W.nsIn K mainGlobals "BadRule" = some (some (.ref c_BadRule)))
    (a_BadKey : PySem.W.nsIn K mainGlobals "BadKey" = some (some (.ref c_BadKey)))
    (a_BadSize : PySem.W.nsIn K mainGlobals "BadSize" = some (some (.ref c_BadSize)))
    (a_Full : PySem.W.nsIn K mainGlobals "Full" = some (some (.ref c_Full)))
    (a_TooMany : PySem.W.nsIn K mainGlobals "TooMany" = some (some (.ref c_TooMany)))
    (z_isinstance : PySem.W.nsIn K mainGlobals "isinstance" = some none)
    (z_bool : PySem.W.nsIn K mainGlobals "bool" = some none)
    (z_int : PySem.W.nsIn K mainGlobals "int" = some none)
    (z_len : PySem.W.nsIn K mainGlobals "len" = some none)
    (z_tuple : PySem.W.nsIn K mainGlobals "tuple" = some none)
    (z_str : PySem.W.nsIn K mainGlobals "str" = some none)
    (z_all : PySem.W.nsIn K mainGlobals "all" = some none)
    (z_any : PySem.W.nsIn K mainGlobals "any" = some none)
    (z_sum : PySem.W.nsIn K mainGlobals "sum" = some none)
    (z_max : PySem.W.nsIn K mainGlobals "max" = some none)
    (z_min : PySem.W.nsIn K mainGlobals "min" = some none)
    (z_range : PySem.W.nsIn K mainGlobals "range" = some none)
    (z_list : PySem.W.nsIn K mainGlobals "list" = some none)
    (z_sorted : PySem.W.nsIn K mainGlobals "sorted" = some none)
    (z_enumerate : PySem.W.nsIn K mainGlobals "enumerate" = some none)
    (z_zip : PySem.W.nsIn K mainGlobals "zip" = some none)
    (z_abs : PySem.W.nsIn K mainGlobals "abs" = some none)
    (z_dict : PySem.W.nsIn K mainGlobals "dict" = some none)
    (z_ValueError : PySem.W.nsIn K mainGlobals "ValueError" = some none)
    (v_LEAST_SIZE : PySem.W.nsIn K mainGlobals "LEAST_SIZE" = some (some (.int 2 t_LEAST_SIZE)))
    (v_MOST_SIZE : PySem.W.nsIn K mainGlobals "MOST_SIZE" = some (some (.int 64 t_MOST_SIZE)))
    (v_MOST_SCATTERED : PySem.W.nsIn K mainGlobals "MOST_SCATTERED" = some (some (.int 64 t_MOST_SCATTERED)))
    (a_greatest_divisor : PySem.W.nsIn K mainGlobals "greatest_divisor" = some (some (.ref f_greatest_divisor)))
    (l_greatest_divisor : K.lookup f_greatest_divisor = some ⟨oc_greatest_divisor, od_greatest_divisor, .func (PySem.W.fnOf "greatest_divisor" "greatest_divisor" (defArgs (top 1)) (defBody (top 1)) (defScope (top 1)) .none kV_greatest_divisor dc_greatest_divisor pm_greatest_divisor an_greatest_divisor cd_greatest_divisor ct_greatest_divisor), sl_greatest_divisor⟩)
    (c_greatest_divisor : PySem.W.codeIn K cd_greatest_divisor "greatest_divisor" = true)
    (k_greatest_divisor : PySem.W.keepIn K (.ref f_greatest_divisor) = true)
    (a_fraction : PySem.W.nsIn K mainGlobals "fraction" = some (some (.ref f_fraction)))
    (l_fraction : K.lookup f_fraction = some ⟨oc_fraction, od_fraction, .func (PySem.W.fnOf "fraction" "fraction" (defArgs (top 2)) (defBody (top 2)) (defScope (top 2)) .none kV_fraction dc_fraction pm_fraction an_fraction cd_fraction ct_fraction), sl_fraction⟩)
    (c_fraction : PySem.W.codeIn K cd_fraction "fraction" = true)
    (k_fraction : PySem.W.keepIn K (.ref f_fraction) = true)
    (a_power : PySem.W.nsIn K mainGlobals "power" = some (some (.ref f_power)))
    (l_power : K.lookup f_power = some ⟨oc_power, od_power, .func (PySem.W.fnOf "power" "power" (defArgs (top 11)) (defBody (top 11)) (defScope (top 11)) .none kV_power dc_power pm_power an_power cd_power ct_power), sl_power⟩)
    (c_power : PySem.W.codeIn K cd_power "power" = true)
    (k_power : PySem.W.keepIn K (.ref f_power) = true)
    (a_is_whole : PySem.W.nsIn K mainGlobals "is_whole" = some (some (.ref f_is_whole)))
    (l_is_whole : K.lookup f_is_whole = some ⟨oc_is_whole, od_is_whole, .func (PySem.W.fnOf "is_whole" "is_whole" (defArgs (top 15)) (defBody (top 15)) (defScope (top 15)) .none kV_is_whole dc_is_whole pm_is_whole an_is_whole cd_is_whole ct_is_whole), sl_is_whole⟩)
    (c_is_whole : PySem.W.codeIn K cd_is_whole "is_whole" = true)
    (k_is_whole : PySem.W.keepIn K (.ref f_is_whole) = true)
    (a_check_size : PySem.W.nsIn K mainGlobals "check_size" = some (some (.ref f_check_size)))
    (l_check_size : K.lookup f_check_size = some ⟨oc_check_size, od_check_size, .func (PySem.W.fnOf "check_size" "check_size" (defArgs (top 16)) (defBody (top 16)) (defScope (top 16)) .none kV_check_size dc_check_size pm_check_size an_check_size cd_check_size ct_check_size), sl_check_size⟩)
    (c_check_size : PySem.W.codeIn K cd_check_size "check_size" = true)
    (k_check_size : PySem.W.keepIn K (.ref f_check_size) = true)
    (a_check_count : PySem.W.nsIn K mainGlobals "check_count" = some (some (.ref f_check_count)))
    (l_check_count : K.lookup f_check_count = some ⟨oc_check_count, od_check_count, .func (PySem.W.fnOf "check_count" "check_count" (defArgs (top 17)) (defBody (top 17)) (defScope (top 17)) .none kV_check_count dc_check_count pm_check_count an_check_count cd_check_count ct_check_count), sl_check_count⟩)
    (c_check_count : PySem.W.codeIn K cd_check_count "check_count" = true)
    (k_check_count : PySem.W.keepIn K (.ref f_check_count) = true)
    (a_choices : PySem.W.nsIn K mainGlobals "choices" = some (some (.ref f_choices)))
    (l_choices : K.lookup f_choices = some ⟨oc_choices, od_choices, .func (PySem.W.fnOf "choices" "choices" (defArgs (top 20)) (defBody (top 20)) (defScope (top 20)) .none kV_choices dc_choices pm_choices an_choices cd_choices ct_choices), sl_choices⟩)
    (c_choices : PySem.W.codeIn K cd_choices "choices" = true)
    (k_choices : PySem.W.keepIn K (.ref f_choices) = true)
    (a_counts_of_one_more : PySem.W.nsIn K mainGlobals "counts_of_one_more" = some (some (.ref f_counts_of_one_more)))
    (l_counts_of_one_more : K.lookup f_counts_of_one_more = some ⟨oc_counts_of_one_more, od_counts_of_one_more, .func (PySem.W.fnOf "counts_of_one_more" "counts_of_one_more" (defArgs (top 21)) (defBody (top 21)) (defScope (top 21)) .none kV_counts_of_one_more dc_counts_of_one_more pm_counts_of_one_more an_counts_of_one_more cd_counts_of_one_more ct_counts_of_one_more), sl_counts_of_one_more⟩)
    (c_counts_of_one_more : PySem.W.codeIn K cd_counts_of_one_more "counts_of_one_more" = true)
    (k_counts_of_one_more : PySem.W.keepIn K (.ref f_counts_of_one_more) = true)
    (a_scatterings_up_to : PySem.W.nsIn K mainGlobals "scatterings_up_to" = some (some (.ref f_scatterings_up_to)))
    (l_scatterings_up_to : K.lookup f_scatterings_up_to = some ⟨oc_scatterings_up_to, od_scatterings_up_to, .func (PySem.W.fnOf "scatterings_up_to" "scatterings_up_to" (defArgs (top 22)) (defBody (top 22)) (defScope (top 22)) .none kV_scatterings_up_to dc_scatterings_up_to pm_scatterings_up_to an_scatterings_up_to cd_scatterings_up_to ct_scatterings_up_to), sl_scatterings_up_to⟩)
    (c_scatterings_up_to : PySem.W.codeIn K cd_scatterings_up_to "scatterings_up_to" = true)
    (k_scatterings_up_to : PySem.W.keepIn K (.ref f_scatterings_up_to) = true)
    (a_longest : PySem.W.nsIn K mainGlobals "longest" = some (some (.ref f_longest)))
    (l_longest : K.lookup f_longest = some ⟨oc_longest, od_longest, .func (PySem.W.fnOf "longest" "longest" (defArgs (top 23)) (defBody (top 23)) (defScope (top 23)) .none kV_longest dc_longest pm_longest an_longest cd_longest ct_longest), sl_longest⟩)
    (c_longest : PySem.W.codeIn K cd_longest "longest" = true)
    (k_longest : PySem.W.keepIn K (.ref f_longest) = true)
    (a_mean_longest : PySem.W.nsIn K mainGlobals "mean_longest" = some (some (.ref f_mean_longest)))
    (l_mean_longest : K.lookup f_mean_longest = some ⟨oc_mean_longest, od_mean_longest, .func (PySem.W.fnOf "mean_longest" "mean_longest" (defArgs (top 24)) (defBody (top 24)) (defScope (top 24)) .none kV_mean_longest dc_mean_longest pm_mean_longest an_mean_longest cd_mean_longest ct_mean_longest), sl_mean_longest⟩)
    (c_mean_longest : PySem.W.codeIn K cd_mean_longest "mean_longest" = true)
    (k_mean_longest : PySem.W.keepIn K (.ref f_mean_longest) = true)
    (a__law_cell : PySem.W.nsIn K mainGlobals "_law_cell" = some (some (.ref f__law_cell)))
    (l__law_cell : K.lookup f__law_cell = some ⟨oc__law_cell, od__law_cell, .func (PySem.W.fnOf "_law_cell" "_law_cell" (defArgs (top 26)) (defBody (top 26)) (defScope (top 26)) .none kV__law_cell dc__law_cell pm__law_cell an__law_cell cd__law_cell ct__law_cell), sl__law_cell⟩)
    (c__law_cell : PySem.W.codeIn K cd__law_cell "_law_cell" = true)
    (k__law_cell : PySem.W.keepIn K (.ref f__law_cell) = true)
    (a__law_drawn : PySem.W.nsIn K mainGlobals "_law_drawn" = some (some (.ref f__law_drawn)))
    (l__law_drawn : K.lookup f__law_drawn = some ⟨oc__law_drawn, od__law_drawn, .func (PySem.W.fnOf "_law_drawn" "_law_drawn" (defArgs (top 27)) (defBody (top 27)) (defScope (top 27)) .none kV__law_drawn dc__law_drawn pm__law_drawn an__law_drawn cd__law_drawn ct__law_drawn), sl__law_drawn⟩)
    (c__law_drawn : PySem.W.codeIn K cd__law_drawn "_law_drawn" = true)
    (k__law_drawn : PySem.W.keepIn K (.ref f__law_drawn) = true)
    (a__law_word : PySem.W.nsIn K mainGlobals "_law_word" = some (some (.ref f__law_word)))
    (l__law_word : K.lookup f__law_word = some ⟨oc__law_word, od__law_word, .func (PySem.W.fnOf "_law_word" "_law_word" (defArgs (top 28)) (defBody (top 28)) (defScope (top 28)) .none kV__law_word dc__law_word pm__law_word an__law_word cd__law_word ct__law_word), sl__law_word⟩)
    (c__law_word : PySem.W.codeIn K cd__law_word "_law_word" = true)
    (k__law_word : PySem.W.keepIn K (.ref f__law_word) = true)
    (a__law_told : PySem.W.nsIn K mainGlobals "_law_told" = some (some (.ref f__law_told)))
    (l__law_told : K.lookup f__law_told = some ⟨oc__law_told, od__law_told, .func (PySem.W.fnOf "_law_told" "_law_told" (defArgs (top 29)) (defBody (top 29)) (defScope (top 29)) .none kV__law_told dc__law_told pm__law_told an__law_told cd__law_told ct__law_told), sl__law_told⟩)
    (c__law_told : PySem.W.codeIn K cd__law_told "_law_told" = true)
    (k__law_told : PySem.W.keepIn K (.ref f__law_told) = true)
    (a__law_fraction : PySem.W.nsIn K mainGlobals "_law_fraction" = some (some (.ref f__law_fraction)))
    (l__law_fraction : K.lookup f__law_fraction = some ⟨oc__law_fraction, od__law_fraction, .func (PySem.W.fnOf "_law_fraction" "_law_fraction" (defArgs (top 30)) (defBody (top 30)) (defScope (top 30)) .none kV__law_fraction dc__law_fraction pm__law_fraction an__law_fraction cd__law_fraction ct__law_fraction), sl__law_fraction⟩)
    (c__law_fraction : PySem.W.codeIn K cd__law_fraction "_law_fraction" = true)
    (k__law_fraction : PySem.W.keepIn K (.ref f__law_fraction) = true)
    (a__law_power : PySem.W.nsIn K mainGlobals "_law_power" = some (some (.ref f__law_power)))
    (l__law_power : K.lookup f__law_power = some ⟨oc__law_power, od__law_power, .func (PySem.W.fnOf "_law_power" "_law_power" (defArgs (top 31)) (defBody (top 31)) (defScope (top 31)) .none kV__law_power dc__law_power pm__law_power an__law_power cd__law_power ct__law_power), sl__law_power⟩)
    (c__law_power : PySem.W.codeIn K cd__law_power "_law_power" = true)
    (k__law_power : PySem.W.keepIn K (.ref f__law_power) = true)
    (a__law_heights : PySem.W.nsIn K mainGlobals "_law_heights" = some (some (.ref f__law_heights)))
    (l__law_heights : K.lookup f__law_heights = some ⟨oc__law_heights, od__law_heights, .func (PySem.W.fnOf "_law_heights" "_law_heights" (defArgs (top 32)) (defBody (top 32)) (defScope (top 32)) .none kV__law_heights dc__law_heights pm__law_heights an__law_heights cd__law_heights ct__law_heights), sl__law_heights⟩)
    (c__law_heights : PySem.W.codeIn K cd__law_heights "_law_heights" = true)
    (k__law_heights : PySem.W.keepIn K (.ref f__law_heights) = true)
    (a__law_chosen : PySem.W.nsIn K mainGlobals "_law_chosen" = some (some (.ref f__law_chosen)))
    (l__law_chosen : K.lookup f__law_chosen = some ⟨oc__law_chosen, od__law_chosen, .func (PySem.W.fnOf "_law_chosen" "_law_chosen" (defArgs (top 33)) (defBody (top 33)) (defScope (top 33)) .none kV__law_chosen dc__law_chosen pm__law_chosen an__law_chosen cd__law_chosen ct__law_chosen), sl__law_chosen⟩)
    (c__law_chosen : PySem.W.codeIn K cd__law_chosen "_law_chosen" = true)
    (k__law_chosen : PySem.W.keepIn K (.ref f__law_chosen) = true)
    (a__law_bounded : PySem.W.nsIn K mainGlobals "_law_bounded" = some (some (.ref f__law_bounded)))
    (l__law_bounded : K.lookup f__law_bounded = some ⟨oc__law_bounded, od__law_bounded, .func (PySem.W.fnOf "_law_bounded" "_law_bounded" (defArgs (top 34)) (defBody (top 34)) (defScope (top 34)) .none kV__law_bounded dc__law_bounded pm__law_bounded an__law_bounded cd__law_bounded ct__law_bounded), sl__law_bounded⟩)
    (c__law_bounded : PySem.W.codeIn K cd__law_bounded "_law_bounded" = true)
    (k__law_bounded : PySem.W.keepIn K (.ref f__law_bounded) = true)
    (a_law : PySem.W.nsIn K mainGlobals "law" = some (some (.ref f_law)))
    (l_law : K.lookup f_law = some ⟨oc_law, od_law, .func (PySem.W.fnOf "law" "law" (defArgs (top 35)) (defBody (top 35)) (defScope (top 35)) .none kV_law dc_law pm_law an_law cd_law ct_law), sl_law⟩)
    (c_law : PySem.W.codeIn K cd_law "law" = true)
    (k_law : PySem.W.keepIn K (.ref f_law) = true)
    (x_StrewError : PySem.W.excIn K c_StrewError veB "ValueError.__new__" = true)
    (x_BadRule : PySem.W.excIn K c_BadRule veB "ValueError.__new__" = true)
    (x_BadKey : PySem.W.excIn K c_BadKey veB "ValueError.__new__" = true)
    (x_BadSize : PySem.W.excIn K c_BadSize veB "ValueError.__new__" = true)
    (x_Full : PySem.W.excIn K c_Full veB "ValueError.__new__" = true)
    (x_TooMany : PySem.W.excIn K c_TooMany veB "ValueError.__new__" = true)
    (ga0 : PySem.W.findIn K (.ref c_BadRule) "__getattribute__" = some (some (.builtin "BaseException.__getattribute__")))
    (na0 : PySem.W.findIn K (.ref c_BadRule) "__getattr__" = some none)
    (ca0 : PySem.W.findIn K (.ref c_BadRule) "__class__" = some (some (.builtin "object.__class__")))
    (mo0 : PySem.W.mroIn K c_BadRule (.type "object") = some true)
    (mb0 : PySem.W.mroIn K c_BadRule (.type "BaseException") = some true)
    (hd0 : PySem.W.hasDictIn K c_BadRule = true)
    (ex0 : PySem.W.exmOne K (.ref c_BadRule) (.ref c_StrewError) = some true)
    (q00 : PySem.W.kitOne K (.ref c_BadRule) (.ref c_BadRule) = some true)
    (q01 : PySem.W.kitOne K (.ref c_BadRule) (.ref c_BadKey) = some false)
    (q02 : PySem.W.kitOne K (.ref c_BadRule) (.ref c_BadSize) = some false)
    (q03 : PySem.W.kitOne K (.ref c_BadRule) (.ref c_Full) = some false)
    (q04 : PySem.W.kitOne K (.ref c_BadRule) (.ref c_TooMany) = some false)
    (ve0 : PySem.W.kitOne K (.ref c_BadRule) (.type "ValueError") = some true)
    (ga1 : PySem.W.findIn K (.ref c_BadKey) "__getattribute__" = some (some (.builtin "BaseException.__getattribute__")))
    (na1 : PySem.W.findIn K (.ref c_BadKey) "__getattr__" = some none)
    (ca1 : PySem.W.findIn K (.ref c_BadKey) "__class__" = some (some (.builtin "object.__class__")))
    (mo1 : PySem.W.mroIn K c_BadKey (.type "object") = some true)
    (mb1 : PySem.W.mroIn K c_BadKey (.type "BaseException") = some true)
    (hd1 : PySem.W.hasDictIn K c_BadKey = true)
    (ex1 : PySem.W.exmOne K (.ref c_BadKey) (.ref c_StrewError) = some true)
    (q10 : PySem.W.kitOne K (.ref c_BadKey) (.ref c_BadRule) = some false)
    (q11 : PySem.W.kitOne K (.ref c_BadKey) (.ref c_BadKey) = some true)
    (q12 : PySem.W.kitOne K (.ref c_BadKey) (.ref c_BadSize) = some false)
    (q13 : PySem.W.kitOne K (.ref c_BadKey) (.ref c_Full) = some false)
    (q14 : PySem.W.kitOne K (.ref c_BadKey) (.ref c_TooMany) = some false)
    (ve1 : PySem.W.kitOne K (.ref c_BadKey) (.type "ValueError") = some true)
    (ga2 : PySem.W.findIn K (.ref c_BadSize) "__getattribute__" = some (some (.builtin "BaseException.__getattribute__")))
    (na2 : PySem.W.findIn K (.ref c_BadSize) "__getattr__" = some none)
    (ca2 : PySem.W.findIn K (.ref c_BadSize) "__class__" = some (some (.builtin "object.__class__")))
    (mo2 : PySem.W.mroIn K c_BadSize (.type "object") = some true)
    (mb2 : PySem.W.mroIn K c_BadSize (.type "BaseException") = some true)
    (hd2 : PySem.W.hasDictIn K c_BadSize = true)
    (ex2 : PySem.W.exmOne K (.ref c_BadSize) (.ref c_StrewError) = some true)
    (q20 : PySem.W.kitOne K (.ref c_BadSize) (.ref c_BadRule) = some false)
    (q21 : PySem.W.kitOne K (.ref c_BadSize) (.ref c_BadKey) = some false)
    (q22 : PySem.W.kitOne K (.ref c_BadSize) (.ref c_BadSize) = some true)
    (q23 : PySem.W.kitOne K (.ref c_BadSize) (.ref c_Full) = some false)
    (q24 : PySem.W.kitOne K (.ref c_BadSize) (.ref c_TooMany) = some false)
    (ve2 : PySem.W.kitOne K (.ref c_BadSize) (.type "ValueError") = some true)
    (ga3 : PySem.W.findIn K (.ref c_Full) "__getattribute__" = some (some (.builtin "BaseException.__getattribute__")))
    (na3 : PySem.W.findIn K (.ref c_Full) "__getattr__" = some none)
    (ca3 : PySem.W.findIn K (.ref c_Full) "__class__" = some (some (.builtin "object.__class__")))
    (mo3 : PySem.W.mroIn K c_Full (.type "object") = some true)
    (mb3 : PySem.W.mroIn K c_Full (.type "BaseException") = some true)
    (hd3 : PySem.W.hasDictIn K c_Full = true)
    (ex3 : PySem.W.exmOne K (.ref c_Full) (.ref c_StrewError) = some true)
    (q30 : PySem.W.kitOne K (.ref c_Full) (.ref c_BadRule) = some false)
    (q31 : PySem.W.kitOne K (.ref c_Full) (.ref c_BadKey) = some false)
    (q32 : PySem.W.kitOne K (.ref c_Full) (.ref c_BadSize) = some false)
    (q33 : PySem.W.kitOne K (.ref c_Full) (.ref c_Full) = some true)
    (q34 : PySem.W.kitOne K (.ref c_Full) (.ref c_TooMany) = some false)
    (ve3 : PySem.W.kitOne K (.ref c_Full) (.type "ValueError") = some true)
    (ga4 : PySem.W.findIn K (.ref c_TooMany) "__getattribute__" = some (some (.builtin "BaseException.__getattribute__")))
    (na4 : PySem.W.findIn K (.ref c_TooMany) "__getattr__" = some none)
    (ca4 : PySem.W.findIn K (.ref c_TooMany) "__class__" = some (some (.builtin "object.__class__")))
    (mo4 : PySem.W.mroIn K c_TooMany (.type "object") = some true)
    (mb4 : PySem.W.mroIn K c_TooMany (.type "BaseException") = some true)
    (hd4 : PySem.W.hasDictIn K c_TooMany = true)
    (ex4 : PySem.W.exmOne K (.ref c_TooMany) (.ref c_StrewError) = some true)
    (q40 : PySem.W.kitOne K (.ref c_TooMany) (.ref c_BadRule) = some false)
    (q41 : PySem.W.kitOne K (.ref c_TooMany) (.ref c_BadKey) = some false)
    (q42 : PySem.W.kitOne K (.ref c_TooMany) (.ref c_BadSize) = some false)
    (q43 : PySem.W.kitOne K (.ref c_TooMany) (.ref c_Full) = some false)
    (q44 : PySem.W.kitOne K (.ref c_TooMany) (.ref c_TooMany) = some true)
    (ve4 : PySem.W.kitOne K (.ref c_TooMany) (.type "ValueError") = some true)
    (cg : PySem.W.specialIn K (.builtin "object.__class__") "__get__" = some (some (.builtin "getset_descriptor.__get__")))
    (ct : PySem.W.takesIn K (.builtin "object.__class__") = some true)
    : ∃ fd : FuncData, (∀ (s : Shared) (v : Value), BindsTo s fd ⟨[v], []⟩ [("_law_script", v)]) ∧ ∀ base : Heap, K.In base → base.Ns mainGlobals mg → FnOk l.prog w K mg base (CX1 l.prog w) true 7 fa fd ["_law_script"] (spLaw K) := by
  have e := hfa.symm.trans (PySem.W.mg_of X G a_law)
  cases e
  let cl : CN → Addr := fun n => match n with | .StrewError => c_StrewError | .BadRule => c_BadRule | .BadKey => c_BadKey | .BadSize => c_BadSize | .Full => c_Full | .TooMany => c_TooMany | _ => 0
  have T : Tx K mg cl := ⟨PySem.W.mg_none_of X G z_isinstance, PySem.W.mg_none_of X G z_bool, PySem.W.mg_none_of X G z_int, PySem.W.mg_none_of X G z_len, PySem.W.mg_none_of X G z_tuple, PySem.W.mg_none_of X G z_str, PySem.W.mg_none_of X G z_all, PySem.W.mg_none_of X G z_any, PySem.W.mg_none_of X G z_sum, PySem.W.mg_none_of X G z_max, PySem.W.mg_none_of X G z_min, PySem.W.mg_none_of X G z_range, PySem.W.mg_none_of X G z_list, PySem.W.mg_none_of X G z_sorted, PySem.W.mg_none_of X G z_enumerate, PySem.W.mg_none_of X G z_zip, PySem.W.mg_none_of X G z_abs, PySem.W.mg_none_of X G z_dict, PySem.W.mg_none_of X G z_ValueError, ⟨_, PySem.W.mg_of X G v_LEAST_SIZE, ⟨_, rfl⟩⟩, ⟨_, PySem.W.mg_of X G v_MOST_SIZE, ⟨_, rfl⟩⟩, ⟨_, PySem.W.mg_of X G v_MOST_SCATTERED, ⟨_, rfl⟩⟩, PySem.W.mg_of X G a_StrewError, x_StrewError, PySem.W.mg_of X G a_BadRule, x_BadRule, PySem.W.mg_of X G a_BadKey, x_BadKey, PySem.W.mg_of X G a_BadSize, x_BadSize, PySem.W.mg_of X G a_Full, x_Full, PySem.W.mg_of X G a_TooMany, x_TooMany, ⟨⟨ga0, na0, ca0, cg, ct, mo0, mb0, hd0⟩, ex0, q00, q01, q02, q03, q04, ve0⟩, ⟨⟨ga1, na1, ca1, cg, ct, mo1, mb1, hd1⟩, ex1, q10, q11, q12, q13, q14, ve1⟩, ⟨⟨ga2, na2, ca2, cg, ct, mo2, mb2, hd2⟩, ex2, q20, q21, q22, q23, q24, ve2⟩, ⟨⟨ga3, na3, ca3, cg, ct, mo3, mb3, hd3⟩, ex3, q30, q31, q32, q33, q34, ve3⟩, ⟨⟨ga4, na4, ca4, cg, ct, mo4, mb4, hd4⟩, ex4, q40, q41, q42, q43, q44, ve4⟩⟩
  have F_greatest_divisor := fun_mk (st := top 1) l_greatest_divisor c_greatest_divisor k_greatest_divisor
  have b_greatest_divisor := F_greatest_divisor.binds (ps := ["top", "under"]) fun _ _ _ _ _ _ us hl => match us, hl with | [_, _], _ => rfl
  have F_fraction := fun_mk (st := top 2) l_fraction c_fraction k_fraction
  have b_fraction := F_fraction.binds (ps := ["top", "under"]) fun _ _ _ _ _ _ us hl => match us, hl with | [_, _], _ => rfl
  have F_power := fun_mk (st := top 11) l_power c_power k_power
  have b_power := F_power.binds (ps := ["base", "exponent"]) fun _ _ _ _ _ _ us hl => match us, hl with | [_, _], _ => rfl
  have F_is_whole := fun_mk (st := top 15) l_is_whole c_is_whole k_is_whole
  have b_is_whole := F_is_whole.binds (ps := ["thing", "least", "most"]) fun _ _ _ _ _ _ us hl => match us, hl with | [_, _, _], _ => rfl
  have F_check_size := fun_mk (st := top 16) l_check_size c_check_size k_check_size
  have b_check_size := F_check_size.binds (ps := ["size"]) fun _ _ _ _ _ _ us hl => match us, hl with | [_], _ => rfl
  have F_check_count := fun_mk (st := top 17) l_check_count c_check_count k_check_count
  have b_check_count := F_check_count.binds (ps := ["count", "least", "most"]) fun _ _ _ _ _ _ us hl => match us, hl with | [_, _, _], _ => rfl
  have F_choices := fun_mk (st := top 20) l_choices c_choices k_choices
  have b_choices := F_choices.binds (ps := ["many", "few"]) fun _ _ _ _ _ _ us hl => match us, hl with | [_, _], _ => rfl
  have F_counts_of_one_more := fun_mk (st := top 21) l_counts_of_one_more c_counts_of_one_more k_counts_of_one_more
  have b_counts_of_one_more := F_counts_of_one_more.binds (ps := ["counts", "most"]) fun _ _ _ _ _ _ us hl => match us, hl with | [_, _], _ => rfl
  have F_scatterings_up_to := fun_mk (st := top 22) l_scatterings_up_to c_scatterings_up_to k_scatterings_up_to
  have b_scatterings_up_to := F_scatterings_up_to.binds (ps := ["size", "many", "most"]) fun _ _ _ _ _ _ us hl => match us, hl with | [_, _, _], _ => rfl
  have F_longest := fun_mk (st := top 23) l_longest c_longest k_longest
  have b_longest := F_longest.binds (ps := ["size", "many"]) fun _ _ _ _ _ _ us hl => match us, hl with | [_, _], _ => rfl
  have F_mean_longest := fun_mk (st := top 24) l_mean_longest c_mean_longest k_mean_longest
  have b_mean_longest := F_mean_longest.binds (ps := ["size", "many"]) fun _ _ _ _ _ _ us hl => match us, hl with | [_, _], _ => rfl
  have F__law_cell := fun_mk (st := top 26) l__law_cell c__law_cell k__law_cell
  have b__law_cell := F__law_cell.binds (ps := ["_law_script", "_law_k"]) fun _ _ _ _ _ _ us hl => match us, hl with | [_, _], _ => rfl
  have F__law_drawn := fun_mk (st := top 27) l__law_drawn c__law_drawn k__law_drawn
  have b__law_drawn := F__law_drawn.binds (ps := ["_law_cell_here", "_law_k"]) fun _ _ _ _ _ _ us hl => match us, hl with | [_, _], _ => rfl
  have F__law_word := fun_mk (st := top 28) l__law_word c__law_word k__law_word
  have b__law_word := F__law_word.binds (ps := ["_law_e"]) fun _ _ _ _ _ _ us hl => match us, hl with | [_], _ => rfl
  have F__law_told := fun_mk (st := top 29) l__law_told c__law_told k__law_told
  have b__law_told := F__law_told.binds (ps := ["_law_way", "_law_size", "_law_many"]) fun _ _ _ _ _ _ us hl => match us, hl with | [_, _, _], _ => rfl
  have F__law_fraction := fun_mk (st := top 30) l__law_fraction c__law_fraction k__law_fraction
  have b__law_fraction := F__law_fraction.binds (ps := ["_law_top", "_law_under"]) fun _ _ _ _ _ _ us hl => match us, hl with | [_, _], _ => rfl
  have F__law_power := fun_mk (st := top 31) l__law_power c__law_power k__law_power
  have b__law_power := F__law_power.binds (ps := ["_law_size", "_law_many"]) fun _ _ _ _ _ _ us hl => match us, hl with | [_, _], _ => rfl
  have F__law_heights := fun_mk (st := top 32) l__law_heights c__law_heights k__law_heights
  have b__law_heights := F__law_heights.binds (ps := ["_law_size", "_law_many"]) fun _ _ _ _ _ _ us hl => match us, hl with | [_, _], _ => rfl
  have F__law_chosen := fun_mk (st := top 33) l__law_chosen c__law_chosen k__law_chosen
  have b__law_chosen := F__law_chosen.binds (ps := ["_law_many", "_law_here"]) fun _ _ _ _ _ _ us hl => match us, hl with | [_, _], _ => rfl
  have F__law_bounded := fun_mk (st := top 34) l__law_bounded c__law_bounded k__law_bounded
  have b__law_bounded := F__law_bounded.binds (ps := ["_law_size", "_law_many", "_law_most"]) fun _ _ _ _ _ _ us hl => match us, hl with | [_, _, _], _ => rfl
  have F_law := fun_mk (st := top 35) l_law c_law k_law
  have b_law := F_law.binds (ps := ["_law_script"]) fun _ _ _ _ _ _ us hl => match us, hl with | [_], _ => rfl
  refine ⟨PySem.W.fnOf "law" "law" (defArgs (top 35)) (defBody (top 35)) (defScope (top 35)) .none kV_law dc_law pm_law an_law cd_law ct_law, fun s v => .of_eq rfl, fun base _ _ => ?_⟩
  have O_greatest_divisor : Own l.prog w K mg base true 1 "greatest_divisor" ["top", "under"] (spGcd) := ⟨f_greatest_divisor, _, ok_greatest_divisor F_greatest_divisor T, b_greatest_divisor, k_greatest_divisor, PySem.W.mg_of X G a_greatest_divisor⟩
  have O_fraction : Own l.prog w K mg base true 2 "fraction" ["top", "under"] (spFrac) := ⟨f_fraction, _, ok_fraction F_fraction T O_greatest_divisor, b_fraction, k_fraction, PySem.W.mg_of X G a_fraction⟩
  have O_power : Own l.prog w K mg base true 1 "power" ["base", "exponent"] (spPow) := ⟨f_power, _, ok_power F_power T, b_power, k_power, PySem.W.mg_of X G a_power⟩
  have O_is_whole : Own l.prog w K mg base true 1 "is_whole" ["thing", "least", "most"] (spWhole) := ⟨f_is_whole, _, ok_is_whole F_is_whole T, b_is_whole, k_is_whole, PySem.W.mg_of X G a_is_whole⟩
  have O_check_size : Own l.prog w K mg base true 2 "check_size" ["size"] (spCheckSize (cl .BadSize)) := ⟨f_check_size, _, ok_check_size F_check_size T O_is_whole, b_check_size, k_check_size, PySem.W.mg_of X G a_check_size⟩
  have O_check_count : Own l.prog w K mg base true 2 "check_count" ["count", "least", "most"] (spCheckCount (cl .BadSize)) := ⟨f_check_count, _, ok_check_count F_check_count T O_is_whole, b_check_count, k_check_count, PySem.W.mg_of X G a_check_count⟩
  have O_choices : Own l.prog w K mg base true 1 "choices" ["many", "few"] (spChoices) := ⟨f_choices, _, ok_choices F_choices T, b_choices, k_choices, PySem.W.mg_of X G a_choices⟩
  have O_counts_of_one_more : Own l.prog w K mg base true 2 "counts_of_one_more" ["counts", "most"] (spOneMore) := ⟨f_counts_of_one_more, _, ok_counts_of_one_more F_counts_of_one_more T O_choices, b_counts_of_one_more, k_counts_of_one_more, PySem.W.mg_of X G a_counts_of_one_more⟩
  have O_scatterings_up_to : Own l.prog w K mg base true 3 "scatterings_up_to" ["size", "many", "most"] (spScat) := ⟨f_scatterings_up_to, _, ok_scatterings_up_to F_scatterings_up_to T O_counts_of_one_more, b_scatterings_up_to, k_scatterings_up_to, PySem.W.mg_of X G a_scatterings_up_to⟩
  have O_longest : Own l.prog w K mg base true 4 "longest" ["size", "many"] (spLongest (cl .BadSize)) := ⟨f_longest, _, ok_longest F_longest T O_check_size O_check_count O_scatterings_up_to, b_longest, k_longest, PySem.W.mg_of X G a_longest⟩
  have O_mean_longest : Own l.prog w K mg base true 5 "mean_longest" ["size", "many"] (spMean (cl .BadSize)) := ⟨f_mean_longest, _, ok_mean_longest F_mean_longest T O_fraction O_power O_longest, b_mean_longest, k_mean_longest, PySem.W.mg_of X G a_mean_longest⟩
  have O__law_cell : Own l.prog w K mg base true 1 "_law_cell" ["_law_script", "_law_k"] (spCell K) := ⟨f__law_cell, _, ok__law_cell F__law_cell T, b__law_cell, k__law_cell, PySem.W.mg_of X G a__law_cell⟩
  have O__law_drawn : Own l.prog w K mg base true 1 "_law_drawn" ["_law_cell_here", "_law_k"] (spDrawn) := ⟨f__law_drawn, _, ok__law_drawn F__law_drawn T, b__law_drawn, k__law_drawn, PySem.W.mg_of X G a__law_drawn⟩
  have O__law_word : Own l.prog w K mg base false 1 "_law_word" ["_law_e"] (spWord K cl) := ⟨f__law_word, _, ok__law_word F__law_word T, b__law_word, k__law_word, PySem.W.mg_of X G a__law_word⟩
  have O__law_told : Own l.prog w K mg base true 6 "_law_told" ["_law_way", "_law_size", "_law_many"] (spToldM) := ⟨f__law_told, _, ok__law_told F__law_told T O_longest O_mean_longest O__law_word, b__law_told, k__law_told, PySem.W.mg_of X G a__law_told⟩
  have O__law_fraction : Own l.prog w K mg base true 1 "_law_fraction" ["_law_top", "_law_under"] (spFrac) := ⟨f__law_fraction, _, ok__law_fraction F__law_fraction T, b__law_fraction, k__law_fraction, PySem.W.mg_of X G a__law_fraction⟩
  have O__law_power : Own l.prog w K mg base true 1 "_law_power" ["_law_size", "_law_many"] (spPow) := ⟨f__law_power, _, ok__law_power F__law_power T, b__law_power, k__law_power, PySem.W.mg_of X G a__law_power⟩
  have O__law_heights : Own l.prog w K mg base true 2 "_law_heights" ["_law_size", "_law_many"] (spHeights) := ⟨f__law_heights, _, ok__law_heights F__law_heights T O__law_power, b__law_heights, k__law_heights, PySem.W.mg_of X G a__law_heights⟩
  have O__law_chosen : Own l.prog w K mg base true 1 "_law_chosen" ["_law_many", "_law_here"] (spChoices) := ⟨f__law_chosen, _, ok__law_chosen F__law_chosen T, b__law_chosen, k__law_chosen, PySem.W.mg_of X G a__law_chosen⟩
  have O__law_bounded : Own l.prog w K mg base true 2 "_law_bounded" ["_law_size", "_law_many", "_law_most"] (spBounded) := ⟨f__law_bounded, _, ok__law_bounded F__law_bounded T O__law_chosen, b__law_bounded, k__law_bounded, PySem.W.mg_of X G a__law_bounded⟩
  exact ok_law F_law T O__law_cell O__law_drawn O__law_told O__law_fraction O__law_power O__law_heights O__law_bounded
end S51
open PySem PySem.W PyProof.Rows
set_option maxRecDepth 100000 in
set_option maxHeartbeats 0 in
theorem PySem.Challenge.cw_strewn_k51_whole_longest_holds : PySem.Challenge.rw_strewn_k51_whole_longest.Holds := by
  w_on; o_law; k_head; (case hw => w_witness2)
  k_fill
  refine L2.walk_of (l := PySem.Challenge.rw_strewn_k51_whole_longest) (c := true) (n := 63) (k := 7) (x := "_law_script") (CX := fun w => L2.CX1 (PySem.Challenge.rw_strewn_k51_whole_longest).prog w) (sp := fun w => SC.spLaw _) rfl (by decide) rfl ⟨by decide, by decide⟩ (fun w h Y => PySem.W.kIn_of Y) ?F (fun _ _ a ns hl _ hS => ⟨a, ns, rfl, hS, hl, fun _ => rfl⟩) (fun _ _ _ _ _ z => L2.E0.no z)
  case F =>
    intro w mg fa h KX G hmg
    refine' S51.all_mk KX G hmg ?a_StrewError ?a_BadRule ?a_BadKey ?a_BadSize ?a_Full ?a_TooMany ?z_isinstance ?z_bool ?z_int ?z_len ?z_tuple ?z_str ?z_all ?z_any ?z_sum ?z_max ?z_min ?z_range ?z_list ?z_sorted ?z_enumerate ?z_zip ?z_abs ?z_dict ?z_ValueError ?v_LEAST_SIZE ?v_MOST_SIZE ?v_MOST_SCATTERED ?a_greatest_divisor ?l_greatest_divisor ?c_greatest_divisor ?k_greatest_divisor ?a_fraction ?l_fraction ?c_fraction ?k_fraction ?a_power ?l_power ?c_power ?k_power ?a_is_whole ?l_is_whole ?c_is_whole ?k_is_whole ?a_check_size ?l_check_size ?c_check_size ?k_check_size ?a_check_count ?l_check_count ?c_check_count ?k_check_count ?a_choices ?l_choices ?c_choices ?k_choices ?a_counts_of_one_more ?l_counts_of_one_more ?c_counts_of_one_more ?k_counts_of_one_more ?a_scatterings_up_to ?l_scatterings_up_to ?c_scatterings_up_to ?k_scatterings_up_to ?a_longest ?l_longest ?c_longest ?k_longest ?a_mean_longest ?l_mean_longest ?c_mean_longest ?k_mean_longest ?a__law_cell ?l__law_cell ?c__law_cell ?k__law_cell ?a__law_drawn ?l__law_drawn ?c__law_drawn ?k__law_drawn ?a__law_word ?l__law_word ?c__law_word ?k__law_word ?a__law_told ?l__law_told ?c__law_told ?k__law_told ?a__law_fraction ?l__law_fraction ?c__law_fraction ?k__law_fraction ?a__law_power ?l__law_power ?c__law_power ?k__law_power ?a__law_heights ?l__law_heights ?c__law_heights ?k__law_heights ?a__law_chosen ?l__law_chosen ?c__law_chosen ?k__law_chosen ?a__law_bounded ?l__law_bounded ?c__law_bounded ?k__law_bounded ?a_law ?l_law ?c_law ?k_law ?x_StrewError ?x_BadRule ?x_BadKey ?x_BadSize ?x_Full ?x_TooMany ?ga0 ?na0 ?ca0 ?mo0 ?mb0 ?hd0 ?ex0 ?q00 ?q01 ?q02 ?q03 ?q04 ?ve0 ?ga1 ?na1 ?ca1 ?mo1 ?mb1 ?hd1 ?ex1 ?q10 ?q11 ?q12 ?q13 ?q14 ?ve1 ?ga2 ?na2 ?ca2 ?mo2 ?mb2 ?hd2 ?ex2 ?q20 ?q21 ?q22 ?q23 ?q24 ?ve2 ?ga3 ?na3 ?ca3 ?mo3 ?mb3 ?hd3 ?ex3 ?q30 ?q31 ?q32 ?q33 ?q34 ?ve3 ?ga4 ?na4 ?ca4 ?mo4 ?mb4 ?hd4 ?ex4 ?q40 ?q41 ?q42 ?q43 ?q44 ?ve4 ?cg ?ct
    (case a_StrewError => first | k_is | kit_is | kernel_rfl)
    (case a_BadRule => first | k_is | kit_is | kernel_rfl)
    (case a_BadKey => first | k_is | kit_is | kernel_rfl)
    (case a_BadSize => first | k_is | kit_is | kernel_rfl)
    (case a_Full => first | k_is | kit_is | kernel_rfl)
    (case a_TooMany => first | k_is | kit_is | kernel_rfl)
    (case z_isinstance => first | k_is | kit_is | kernel_rfl)
    (case z_bool => first | k_is | kit_is | kernel_rfl)
    (case z_int => first | k_is | kit_is | kernel_rfl)
    (case z_len => first | k_is | kit_is | kernel_rfl)
    (case z_tuple => first | k_is | kit_is | kernel_rfl)
    (case z_str => first | k_is | kit_is | kernel_rfl)
    (case z_all => first | k_is | kit_is | kernel_rfl)
    (case z_any => first | k_is | kit_is | kernel_rfl)
    (case z_sum => first | k_is | kit_is | kernel_rfl)
    (case z_max => first | k_is | kit_is | kernel_rfl)
    (case z_min => first | k_is | kit_is | kernel_rfl)
    (case z_range => first | k_is | kit_is | kernel_rfl)
    (case z_list => first | k_is | kit_is | kernel_rfl)
    (case z_sorted => first | k_is | kit_is | kernel_rfl)
    (case z_enumerate => first | k_is | kit_is | kernel_rfl)
    (case z_zip => first | k_is | kit_is | kernel_rfl)
    (case z_abs => first | k_is | kit_is | kernel_rfl)
    (case z_dict => first | k_is | kit_is | kernel_rfl)
    (case z_ValueError => first | k_is | kit_is | kernel_rfl)
    (case v_LEAST_SIZE => first | k_is | kit_is | kernel_rfl)
    (case v_MOST_SIZE => first | k_is | kit_is | kernel_rfl)
    (case v_MOST_SCATTERED => first | k_is | kit_is | kernel_rfl)
    (case a_greatest_divisor => first | k_is | kit_is | kernel_rfl)
    (case l_greatest_divisor => first | k_is | kit_is | kernel_rfl)
    (case c_greatest_divisor => first | k_is | kit_is | kernel_rfl)
    (case k_greatest_divisor => first | k_is | kit_is | kernel_rfl)
    (case a_fraction => first | k_is | kit_is | kernel_rfl)
    (case l_fraction => first | k_is | kit_is | kernel_rfl)
    (case c_fraction => first | k_is | kit_is | kernel_rfl)
    (case k_fraction => first | k_is | kit_is | kernel_rfl)
    (case a_power => first | k_is | kit_is | kernel_rfl)
    (case l_power => first | k_is | kit_is | kernel_rfl)
    (case c_power => first | k_is | kit_is | kernel_rfl)
    (case k_power => first | k_is | kit_is | kernel_rfl)
    (case a_is_whole => first | k_is | kit_is | kernel_rfl)
    (case l_is_whole => first | k_is | kit_is | kernel_rfl)
    (case c_is_whole => first | k_is | kit_is | kernel_rfl)
    (case k_is_whole => first | k_is | kit_is | kernel_rfl)
    (case a_check_size => first | k_is | kit_is | kernel_rfl)
    (case l_check_size => first | k_is | kit_is | kernel_rfl)
    (case c_check_size => first | k_is | kit_is | kernel_rfl)
    (case k_check_size => first | k_is | kit_is | kernel_rfl)
    (case a_check_count => first | k_is | kit_is | kernel_rfl)
    (case l_check_count => first | k_is | kit_is | kernel_rfl)
    (case c_check_count => first | k_is | kit_is | kernel_rfl)
    (case k_check_count => first | k_is | kit_is | kernel_rfl)
    (case a_choices => first | k_is | kit_is | kernel_rfl)
    (case l_choices => first | k_is | kit_is | kernel_rfl)
    (case c_choices => first | k_is | kit_is | kernel_rfl)
    (case k_choices => first | k_is | kit_is | kernel_rfl)
    (case a_counts_of_one_more => first | k_is | kit_is | kernel_rfl)
    (case l_counts_of_one_more => first | k_is | kit_is | kernel_rfl)
    (case c_counts_of_one_more => first | k_is | kit_is | kernel_rfl)
    (case k_counts_of_one_more => first | k_is | kit_is | kernel_rfl)
    (case a_scatterings_up_to => first | k_is | kit_is | kernel_rfl)
    (case l_scatterings_up_to => first | k_is | kit_is | kernel_rfl)
    (case c_scatterings_up_to => first | k_is | kit_is | kernel_rfl)
    (case k_scatterings_up_to => first | k_is | kit_is | kernel_rfl)
    (case a_longest => first | k_is | kit_is | kernel_rfl)
    (case l_longest => first | k_is | kit_is | kernel_rfl)
    (case c_longest => first | k_is | kit_is | kernel_rfl)
    (case k_longest => first | k_is | kit_is | kernel_rfl)
    (case a_mean_longest => first | k_is | kit_is | kernel_rfl)
    (case l_mean_longest => first | k_is | kit_is | kernel_rfl)
    (case c_mean_longest => first | k_is | kit_is | kernel_rfl)
    (case k_mean_longest => first | k_is | kit_is | kernel_rfl)
    (case a__law_cell => first | k_is | kit_is | kernel_rfl)
    (case l__law_cell => first | k_is | kit_is | kernel_rfl)
    (case c__law_cell => first | k_is | kit_is | kernel_rfl)
    (case k__law_cell => first | k_is | kit_is | kernel_rfl)
    (case a__law_drawn => first | k_is | kit_is | kernel_rfl)
    (case l__law_drawn => first | k_is | kit_is | kernel_rfl)
    (case c__law_drawn => first | k_is | kit_is | kernel_rfl)
    (case k__law_drawn => first | k_is | kit_is | kernel_rfl)
    (case a__law_word => first | k_is | kit_is | kernel_rfl)
    (case l__law_word => first | k_is | kit_is | kernel_rfl)
    (case c__law_word => first | k_is | kit_is | kernel_rfl)
    (case k__law_word => first | k_is | kit_is | kernel_rfl)
    (case a__law_told => first | k_is | kit_is | kernel_rfl)
    (case l__law_told => first | k_is | kit_is | kernel_rfl)
    (case c__law_told => first | k_is | kit_is | kernel_rfl)
    (case k__law_told => first | k_is | kit_is | kernel_rfl)
    (case a__law_fraction => first | k_is | kit_is | kernel_rfl)
    (case l__law_fraction => first | k_is | kit_is | kernel_rfl)
    (case c__law_fraction => first | k_is | kit_is | kernel_rfl)
    (case k__law_fraction => first | k_is | kit_is | kernel_rfl)
    (case a__law_power => first | k_is | kit_is | kernel_rfl)
    (case l__law_power => first | k_is | kit_is | kernel_rfl)
    (case c__law_power => first | k_is | kit_is | kernel_rfl)
    (case k__law_power => first | k_is | kit_is | kernel_rfl)
    (case a__law_heights => first | k_is | kit_is | kernel_rfl)
    (case l__law_heights => first | k_is | kit_is | kernel_rfl)
    (case c__law_heights => first | k_is | kit_is | kernel_rfl)
    (case k__law_heights => first | k_is | kit_is | kernel_rfl)
    (case a__law_chosen => first | k_is | kit_is | kernel_rfl)
    (case l__law_chosen => first | k_is | kit_is | kernel_rfl)
    (case c__law_chosen => first | k_is | kit_is | kernel_rfl)
    (case k__law_chosen => first | k_is | kit_is | kernel_rfl)
    (case a__law_bounded => first | k_is | kit_is | kernel_rfl)
    (case l__law_bounded => first | k_is | kit_is | kernel_rfl)
    (case c__law_bounded => first | k_is | kit_is | kernel_rfl)
    (case k__law_bounded => first | k_is | kit_is | kernel_rfl)
    (case a_law => first | k_is | kit_is | kernel_rfl)
    (case l_law => first | k_is | kit_is | kernel_rfl)
    (case c_law => first | k_is | kit_is | kernel_rfl)
    (case k_law => first | k_is | kit_is | kernel_rfl)
    (case x_StrewError => first | k_is | kit_is | kernel_rfl)
    (case x_BadRule => first | k_is | kit_is | kernel_rfl)
    (case x_BadKey => first | k_is | kit_is | kernel_rfl)
    (case x_BadSize => first | k_is | kit_is | kernel_rfl)
    (case x_Full => first | k_is | kit_is | kernel_rfl)
    (case x_TooMany => first | k_is | kit_is | kernel_rfl)
    (case ga0 => first | k_is | kit_is | kernel_rfl)
    (case na0 => first | k_is | kit_is | kernel_rfl)
    (case ca0 => first | k_is | kit_is | kernel_rfl)
    (case mo0 => first | k_is | kit_is | kernel_rfl)
    (case mb0 => first | k_is | kit_is | kernel_rfl)
    (case hd0 => first | k_is | kit_is | kernel_rfl)
    (case ex0 => first | k_is | kit_is | kernel_rfl)
    (case q00 => first | k_is | kit_is | kernel_rfl)
    (case q01 => first | k_is | kit_is | kernel_rfl)
    (case q02 => first | k_is | kit_is | kernel_rfl)
    (case q03 => first | k_is | kit_is | kernel_rfl)
    (case q04 => first | k_is | kit_is | kernel_rfl)
    (case ve0 => first | k_is | kit_is | kernel_rfl)
    (case ga1 => first | k_is | kit_is | kernel_rfl)
    (case na1 => first | k_is | kit_is | kernel_rfl)
    (case ca1 => first | k_is | kit_is | kernel_rfl)
    (case mo1 => first | k_is | kit_is | kernel_rfl)
    (case mb1 => first | k_is | kit_is | kernel_rfl)
    (case hd1 => first | k_is | kit_is | kernel_rfl)
    (case ex1 => first | k_is | kit_is | kernel_rfl)
    (case q10 => first | k_is | kit_is | kernel_rfl)
    (case q11 => first | k_is | kit_is | kernel_rfl)
    (case q12 => first | k_is | kit_is | kernel_rfl)
    (case q13 => first | k_is | kit_is | kernel_rfl)
    (case q14 => first | k_is | kit_is | kernel_rfl)
    (case ve1 => first | k_is | kit_is | kernel_rfl)
    (case ga2 => first | k_is | kit_is | kernel_rfl)
    (case na2 => first | k_is | kit_is | kernel_rfl)
    (case ca2 => first | k_is | kit_is | kernel_rfl)
    (case mo2 => first | k_is | kit_is | kernel_rfl)
    (case mb2 => first | k_is | kit_is | kernel_rfl)
    (case hd2 => first | k_is | kit_is | kernel_rfl)
    (case ex2 => first | k_is | kit_is | kernel_rfl)
    (case q20 => first | k_is | kit_is | kernel_rfl)
    (case q21 => first | k_is | kit_is | kernel_rfl)
    (case q22 => first | k_is | kit_is | kernel_rfl)
    (case q23 => first | k_is | kit_is | kernel_rfl)
    (case q24 => first | k_is | kit_is | kernel_rfl)
    (case ve2 => first | k_is | kit_is | kernel_rfl)
    (case ga3 => first | k_is | kit_is | kernel_rfl)
    (case na3 => first | k_is | kit_is | kernel_rfl)
    (case ca3 => first | k_is | kit_is | kernel_rfl)
    (case mo3 => first | k_is | kit_is | kernel_rfl)
    (case mb3 => first | k_is | kit_is | kernel_rfl)
    (case hd3 => first | k_is | kit_is | kernel_rfl)
    (case ex3 => first | k_is | kit_is | kernel_rfl)
    (case q30 => first | k_is | kit_is | kernel_rfl)
    (case q31 => first | k_is | kit_is | kernel_rfl)
    (case q32 => first | k_is | kit_is | kernel_rfl)
    (case q33 => first | k_is | kit_is | kernel_rfl)
    (case q34 => first | k_is | kit_is | kernel_rfl)
    (case ve3 => first | k_is | kit_is | kernel_rfl)
    (case ga4 => first | k_is | kit_is | kernel_rfl)
    (case na4 => first | k_is | kit_is | kernel_rfl)
    (case ca4 => first | k_is | kit_is | kernel_rfl)
    (case mo4 => first | k_is | kit_is | kernel_rfl)
    (case mb4 => first | k_is | kit_is | kernel_rfl)
    (case hd4 => first | k_is | kit_is | kernel_rfl)
    (case ex4 => first | k_is | kit_is | kernel_rfl)
    (case q40 => first | k_is | kit_is | kernel_rfl)
    (case q41 => first | k_is | kit_is | kernel_rfl)
    (case q42 => first | k_is | kit_is | kernel_rfl)
    (case q43 => first | k_is | kit_is | kernel_rfl)
    (case q44 => first | k_is | kit_is | kernel_rfl)
    (case ve4 => first | k_is | kit_is | kernel_rfl)
    (case cg => first | k_is | kit_is | kernel_rfl)
    (case ct => first | k_is | kit_is | kernel_rfl)
#print axioms PySem.Challenge.cw_strewn_k51_whole_longest_holds

