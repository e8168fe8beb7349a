/- A trial: (*Box).Take, (*Box).Put over a channel with a buffer. -/
import Derived.Test.YthonmfoajjhkdaaBxA
import Derived.Test.YthonmfoajjhkdaaRows
import Derived.WalkKit
import Derived.OwnWalk
import Derived.WalkSpells
import Derived.LoopTactic
import Derived.Deep.QuietTactic
import Derived.BigQuiet
import Derived.IntWalk
import Derived.Lib.Hide
import Derived.Deep.Cut
set_option linter.unusedVariables false
namespace Go.Proofs.Ythonmfoajjhkdaa.Bx
open Go.Conc Go.RowKit

set_option maxRecDepth 100000 in
set_option maxHeartbeats 4000000 in
theorem take_some (w : World) (p c cap s r : Nat) (x : Int) (buf : Array Value) (c0 : w.cell? ⟨p, 0, none⟩ = some (.chan (some c))) (hc : w.heap[c]? = some (.chan cap buf false s r false)) (hs : 0 < buf.size) (hx : buf.getD 0 undef = .int .i64 x) :
    Calls Try.prog 13 #[.pointer (some ⟨p, 0, none⟩)] w fun e w' => e = .returned (.tuple #[.int .i64 x, .bool true]) ∧ w' = w.setChan c cap (buf.extract 1 buf.size) false s (r + 1) false := by
  (refine calls_lone Try.func13 rfl (by rintro w' ⟨h, -⟩; cases h) fun b cs hb hk => ?_
   simp only [Try.ntmps13, List.size_toArray, List.length_cons, List.length_nil, Nat.reduceAdd, Nat.reduceSub, Array.replicate_succ,
     Array.replicate_zero, List.push_toArray, List.append_toArray, List.nil_append, List.cons_append])
  refine LoneTo.step step_seq (lone_wp ?_)
  go_wp2
  show LoneTo _ _ _ _
  refine LoneTo.step step_seq (lone_wp ?_)
  go_wp2
  show LoneTo _ _ _ _
  refine LoneTo.step step_seq (LoneTo.step step_region ?_)
  simp only [List.size_toArray, List.length_cons, List.length_nil, Nat.reduceAdd, Nat.zero_add, List.range, List.range.loop]
  refine LoneTo.step (step_lone_select_recv_buf (c := c) (z := .int .i64 0) (cap := cap) (s := s) (r := r) (tm := false) (closed := false) (buf := buf) (stepG_comm (cases := #[rcase c (.int .i64 0)]) (blocking := false) (shape := .select) (w' := w) rfl rfl (by rw [hk]; decide) (by simp [go_sem, execOp, rcase, Act.eval])) hc hs) ?_
  rw [Frame.finish_at, hx]
  refine lone_rest 1 rfl ?_
  simp only [List.drop_succ_cons, List.drop_zero, Act.put, Option.bind_some, List.getElem?_toArray, List.getElem?_cons_zero]
  go_wp2
  show LoneTo _ _ _ _
  refine lone_wp ?_
  go_wp2
  refine lb_ret hb hk Try.func13 (bodyPost_ret (v := .tuple #[.int .i64 x, .bool true]) (by simp [results, Try.f13, go_sem]) rfl ⟨rfl, rfl⟩)
set_option maxRecDepth 100000 in
set_option maxHeartbeats 4000000 in
theorem take_none (w : World) (p c cap s r : Nat) (c0 : w.cell? ⟨p, 0, none⟩ = some (.chan (some c))) (hc : w.heap[c]? = some (.chan cap #[] false s r false)) :
    Calls Try.prog 13 #[.pointer (some ⟨p, 0, none⟩)] w fun e w' => e = .returned (.tuple #[.int .i64 0, .bool false]) ∧ w = w' := by
  (refine calls_lone Try.func13 rfl (by rintro w' ⟨h, -⟩; cases h) fun b cs hb hk => ?_
   simp only [Try.ntmps13, List.size_toArray, List.length_cons, List.length_nil, Nat.reduceAdd, Nat.reduceSub, Array.replicate_succ,
     Array.replicate_zero, List.push_toArray, List.append_toArray, List.nil_append, List.cons_append])
  refine LoneTo.step step_seq (lone_wp ?_)
  go_wp2
  show LoneTo _ _ _ _
  refine LoneTo.step step_seq (lone_wp ?_)
  go_wp2
  show LoneTo _ _ _ _
  refine LoneTo.step step_seq (LoneTo.step step_region ?_)
  simp only [List.size_toArray, List.length_cons, List.length_nil, Nat.reduceAdd, Nat.zero_add, List.range, List.range.loop]
  refine LoneTo.step (step_lone_select_default (c := c) (z := .int .i64 0) (cap := cap) (s := s) (r := r) (tm := false) (stepG_comm (cases := #[rcase c (.int .i64 0)]) (blocking := false) (shape := .select) (w' := w) rfl rfl (by rw [hk]; decide) (by simp [go_sem, execOp, rcase, Act.eval])) hc) ?_
  rw [Frame.finish_at]
  refine lone_rest 1 rfl ?_
  simp only [List.drop_succ_cons, List.drop_zero, Act.put, Option.bind_some, List.getElem?_toArray, List.getElem?_cons_zero]
  go_wp2
  show LoneTo _ _ _ _
  refine lone_wp ?_
  go_wp2
  refine lb_ret hb hk Try.func13 (bodyPost_ret (v := .tuple #[.int .i64 0, .bool false]) (by simp [results, Try.f13, go_sem]) rfl ⟨rfl, rfl⟩)
set_option maxRecDepth 100000 in
set_option maxHeartbeats 4000000 in
theorem put_room (w : World) (p c cap s r : Nat) (x : Int) (buf : Array Value) (c0 : w.cell? ⟨p, 0, none⟩ = some (.chan (some c))) (hc : w.heap[c]? = some (.chan cap buf false s r false)) (hs : buf.size < cap) :
    Calls Try.prog 11 #[.pointer (some ⟨p, 0, none⟩), .int .i64 x] w fun e w' => e = .returned (.int .i64 0) ∧ w' = w.setChan c cap (buf.push (.int .i64 x)) false (s + 1) r false := by
  (refine calls_lone Try.func11 rfl (by rintro w' ⟨h, -⟩; cases h) fun b cs hb hk => ?_
   simp only [Try.ntmps11, List.size_toArray, List.length_cons, List.length_nil, Nat.reduceAdd, Nat.reduceSub, Array.replicate_succ,
     Array.replicate_zero, List.push_toArray, List.append_toArray, List.nil_append, List.cons_append])
  refine LoneTo.step step_seq (lone_wp ?_)
  go_wp2
  show LoneTo _ _ _ _
  refine LoneTo.step step_seq (lone_wp ?_)
  go_wp2
  show LoneTo _ _ _ _
  refine LoneTo.step step_seq (LoneTo.step step_region ?_)
  simp only [List.size_toArray, List.length_cons, List.length_nil, Nat.reduceAdd, Nat.zero_add, List.range, List.range.loop]
  refine LoneTo.step (step_lone_select_send_room (c := c) (v := .int .i64 x) (z' := .int .i64 0) (cap := cap) (s := s) (r := r) (tm := false) (buf := buf) (stepG_comm (cases := #[scase c (.int .i64 x) (.int .i64 0)]) (blocking := false) (shape := .select) (w' := w) rfl rfl (by rw [hk]; decide) (by simp [go_sem, execOp, scase, Act.eval])) hc hs) ?_
  rw [Frame.finish_at]
  refine lone_rest 1 rfl ?_
  simp only [List.drop_succ_cons, List.drop_zero, Act.put, Option.bind_some, List.getElem?_toArray, List.getElem?_cons_zero]
  go_wp2
  show LoneTo _ _ _ _
  refine lone_wp ?_
  go_wp2
  refine lb_ret hb hk Try.func11 (bodyPost_ret (v := .int .i64 0) (by simp [results, Try.f11, go_sem]) rfl ⟨rfl, rfl⟩)
set_option maxRecDepth 100000 in
set_option maxHeartbeats 1000000 in
theorem put_full (w : World) (p c cap s r : Nat) (x : Int) (buf : Array Value) (c0 : w.cell? ⟨p, 0, none⟩ = some (.chan (some c))) (hc : w.heap[c]? = some (.chan cap buf false s r false)) (hs : cap ≤ buf.size) :
    Calls Try.prog 11 #[.pointer (some ⟨p, 0, none⟩), .int .i64 x] w fun e w' => e = .returned (.int .i64 9) ∧ w = w' := by
  (refine calls_lone Try.func11 rfl (by rintro w' ⟨h, -⟩; cases h) fun b cs hb hk => ?_
   simp only [Try.ntmps11, List.size_toArray, List.length_cons, List.length_nil, Nat.reduceAdd, Nat.reduceSub, Array.replicate_succ,
     Array.replicate_zero, List.push_toArray, List.append_toArray, List.nil_append, List.cons_append])
  refine LoneTo.step step_seq (lone_wp ?_)
  go_wp2
  show LoneTo _ _ _ _
  refine LoneTo.step step_seq (lone_wp ?_)
  go_wp2
  show LoneTo _ _ _ _
  refine LoneTo.step step_seq (LoneTo.step step_region ?_)
  simp only [List.size_toArray, List.length_cons, List.length_nil, Nat.reduceAdd, Nat.zero_add, List.range, List.range.loop]
  refine LoneTo.step (step_lone_select_send_full (c := c) (v := .int .i64 x) (z' := .int .i64 0) (cap := cap) (s := s) (r := r) (tm := false) (buf := buf) (stepG_comm (cases := #[scase c (.int .i64 x) (.int .i64 0)]) (blocking := false) (shape := .select) (w' := w) rfl rfl (by rw [hk]; decide) (by simp [go_sem, execOp, scase, Act.eval])) hc hs) ?_
  rw [Frame.finish_at]
  refine lone_rest 1 rfl ?_
  simp only [List.drop_succ_cons, List.drop_zero, Act.put, Option.bind_some, List.getElem?_toArray, List.getElem?_cons_zero]
  go_wp2
  show LoneTo _ _ _ _
  refine lone_wp ?_
  go_wp2
  refine lb_ret hb hk Try.func11 (bodyPost_ret (v := .int .i64 9) (by simp [results, Try.f11, go_sem]) rfl ⟨rfl, rfl⟩)
end Go.Proofs.Ythonmfoajjhkdaa.Bx
